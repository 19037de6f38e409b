"""What is promised over the whole program: [1], and all points together."""

import copy
import random
import unittest
from fractions import Fraction

from bendwright.errors import BendError
from bendwright.finding import (
    Falls, Near, Reached, Rising, area, backwards, greatest, jumps, least, rising, spans,
)
from bendwright.mixing import Alike, Differ, compared, greater, lesser, together
from bendwright.pictures import Picture, limits, mirrored, picture, scaled, tidy, worth_at
from bendwright.programs import size
from bendwright.resting import descent, marks, rests
from bendwright.running import worth, worths
from bendwright.sides import side
from bendwright.slopes import Bent, Flat, Smooth, flat, slope_at
from bendwright.tuning import carried, tuned
from bendwright.turning import behind, fixed, shortened, stirred, unrolled
from tests.doors import DOORS, HALF, NIL, ONE, TWO, X, Y, rise, slide
from tests.drawing import cells, fields, stretched, told_at
from tests.reckoning import frac, pair, pairs, picture_of, reckoned, side_of, worth_of
from tests.test_interface import FUNCTIONS

HUGE = 10 ** 4000
MINUS = (-1, 1)
TENT = [X, ("by", MINUS, 0), ("is", ONE), ("sum", 1, 2), ("least", 0, 3), ("by", TWO, 4)]
TENTS = (1, [X, ("turns", 6, 0, TENT), ("turns", 2, 1, TENT)])


def laid_open(told):
    """What is told with objects as their class and fields, so that it can be compared."""
    if isinstance(told, (list, tuple)):
        return (type(told), [laid_open(part) for part in told])
    if hasattr(told, "__dict__"):
        return (type(told), laid_open(sorted(vars(told).items())))
    return told


def wreck(told):
    """Change all that can be changed of what is told."""
    if isinstance(told, (list, tuple)):
        for part in told:
            wreck(part)
        if isinstance(told, list):
            told.append(None)
            told.reverse()
    elif hasattr(told, "__dict__"):
        for name, field in list(vars(told).items()):
            wreck(field)
            setattr(told, name, None)


def parts_of(told):
    """All lists and tuples in what is told or handed in."""
    if isinstance(told, (list, tuple)):
        yield told
        for part in told:
            yield from parts_of(part)
    elif hasattr(told, "__dict__"):
        for field in vars(told).values():
            yield from parts_of(field)


def made_anew(value):
    """The same, each tuple made at run time, so that none is one of the code's own."""
    if isinstance(value, (list, tuple)):
        return type(value)([made_anew(part) for part in value])
    if isinstance(value, Picture):
        return Picture(made_anew(value.places), made_anew(value.worths), made_anew(value.pieces))
    return value


class TestDoors(unittest.TestCase):
    def refused(self, act, parts, error):
        with self.assertRaises(BendError) as caught:
            act(*parts)
        self.assertIs(type(caught.exception), error, (act.__name__, parts))

    def test_all_are_there(self):
        wanted = sorted((module, name) for module, acts in FUNCTIONS.items() for name in acts)
        self.assertEqual(sorted((act.__module__.split(".")[1], act.__name__) for act in DOORS), wanted)

    def test_each_refusal_by_its_own_class(self):
        for act, (make, rows) in DOORS.items():
            act(*make())
            for error, at, wrongs in rows:
                for wrong in wrongs:
                    parts = make()
                    parts[at] = wrong
                    self.refused(act, parts, error)

    def test_of_two_refusals_the_one_told_first(self):
        chance = random.Random(101)
        for act, (make, rows) in DOORS.items():
            for first, (error, at, wrongs) in enumerate(rows):
                for later, place, others in rows[first + 1:]:
                    if place != at:
                        for turn in range(12):
                            parts = make()
                            parts[at], parts[place] = chance.choice(wrongs), chance.choice(others)
                            self.refused(act, parts, error)

    def test_all_wrong_at_once(self):
        for act, (make, rows) in DOORS.items():
            parts = make()
            for error, at, wrongs in reversed(rows):
                parts[at] = wrongs[0]
            self.refused(act, parts, rows[0][0])

    def test_nothing_handed_in_is_changed(self):
        for act, (make, rows) in DOORS.items():
            parts = make()
            act(*parts)
            self.assertEqual(laid_open(parts), laid_open(make()), act.__name__)

    def test_nothing_handed_in_is_changed_by_what_is_refused(self):
        for act, (make, rows) in DOORS.items():
            for error, at, wrongs in rows:
                parts = make()
                parts[at] = wrongs[-1]
                wanted = laid_open(copy.deepcopy(parts)[:at] + copy.deepcopy(parts)[at + 1:])
                self.refused(act, parts, error)
                self.assertEqual(laid_open(parts[:at] + parts[at + 1:]), wanted)

    def test_what_is_told_has_nothing_of_what_was_handed_in(self):
        for act, (make, rows) in DOORS.items():
            parts = made_anew(make())
            held = {id(part) for part in parts_of(parts) if part}
            told = act(*parts)
            self.assertFalse([part for part in parts_of(told) if id(part) in held], act.__name__)

    def test_each_list_told_is_the_askers_own(self):
        for act, (make, rows) in DOORS.items():
            parts = make()
            first, second = act(*parts), act(*parts)
            lists = [part for told in (first, second, parts) for part in parts_of(told) if isinstance(part, list)]
            self.assertEqual(len({id(part) for part in lists}), len(lists), act.__name__)

    def test_told_things_may_be_changed(self):
        for act, (make, rows) in DOORS.items():
            parts = make()
            wanted = laid_open(act(*parts))
            kept = act(*parts)
            wreck(act(*parts))
            self.assertEqual(laid_open(kept), wanted)
            self.assertEqual(laid_open(act(*parts)), wanted)
            self.assertEqual(laid_open(act(*make())), wanted)

    def test_things_handed_in_may_be_changed_afterwards(self):
        for act, (make, rows) in DOORS.items():
            parts = make()
            kept = act(*parts)
            wanted = laid_open(copy.deepcopy(kept))
            wreck(parts)
            self.assertEqual(laid_open(kept), wanted, act.__name__)
            self.assertEqual(laid_open(act(*make())), wanted)


def changed_steps(program):
    """Change steps in place; the worth is another one."""
    program[1].append(("is", (7, 3)))
    program[1].append(("sum", len(program[1]) - 2, len(program[1]) - 1))


def changed_bodies(program):
    """Change a body in place; the worth is another one."""
    for step in program[1]:
        if step[0] == "turns":
            step[3].append(("by", (-3, 1), len(step[3]) - 1))


def changed_lists(numbers):
    """Change places in place."""
    numbers[:] = [pair(frac(number) + Fraction(1, 7)) for number in numbers]


def changed_fields(made):
    """Change the fields of a picture in place; it goes on without jumps where it did."""
    wider = [pair(2 * frac(worth)) for worth in made.worths]
    made.worths[:] = wider
    made.pieces = [(pair(2 * frac(start)), pair(2 * frac(slope))) for start, slope in made.pieces]


def changed_places(made):
    """Change a picture's last place in place, and its last worth; it goes on without jumps where it did."""
    made.places[-1] = (3, 1)
    start, slope = made.pieces[-1]
    gone_on = frac(start) + frac(slope) * (3 - frac(made.places[-2]))
    made.worths[-1] = pair(gone_on)


class TestChangedInPlace(unittest.TestCase):
    """What is told anew after things were changed in place is as of others that are alike."""

    def changes(self, part):
        if isinstance(part, Picture):
            return (changed_fields, changed_places)
        if isinstance(part, tuple) and isinstance(part[1], list):
            return (changed_steps, changed_bodies)
        return (changed_lists,) if isinstance(part, list) else ()

    def test_each_door(self):
        seen = other = 0
        for act, (make, rows) in DOORS.items():
            for at, part in enumerate(make()):
                for change in self.changes(part):
                    parts = make()
                    before = laid_open(act(*parts))
                    change(parts[at])
                    if len(parts) == 2 and isinstance(parts[1 - at], Picture):
                        change(parts[1 - at])
                    after = laid_open(act(*parts))
                    self.assertEqual(after, laid_open(act(*made_anew(parts))))
                    seen += 1
                    other += before != after
        self.assertGreater(seen, 60)
        self.assertGreater(other, 50)

    def test_answers_by_fields_changed_in_place(self):
        made = rise()
        told = rising(made)
        self.assertIs(told.shows(made), True)
        made.worths[1] = (9, 1)
        self.assertIs(told.shows(made), False)
        self.assertIs(type(rising(made)), Falls)
        made.worths[1] = HALF
        self.assertIs(type(rising(made)), Rising)
        program, places = slide(), [ONE, TWO]
        told = flat(program, places)
        self.assertIs(type(told), Flat)
        self.assertIs(told.shows(program, places), True)
        program[1][6][3][1] = ("by", (3, 1), 0)
        places[0] = (-9, 1)
        self.assertIs(told.shows(program, places), False)
        self.assertEqual(flat(program, places).slopes, [NIL, (3, 1)])

    def test_a_program_made_wrong_in_place_is_refused(self):
        for act, (make, rows) in DOORS.items():
            parts = make()
            if isinstance(parts[0], tuple) and isinstance(parts[0][1], list):
                act(*parts)
                parts[0][1][0] = ("in", 5)
                with self.assertRaises(rows[0][0]):
                    act(*parts)
            elif isinstance(parts[0], Picture):
                act(*parts)
                parts[0].places[0] = parts[0].places[-1]
                with self.assertRaises(rows[0][0]):
                    act(*parts)


class TestNumbersOfManyFigures(unittest.TestCase):
    """Numbers of some thousand figures at each door."""

    NEAR, FAR = (1, HUGE + 1), (HUGE ** 2 + 1, HUGE)

    def program(self):
        return (1, [X, ("by", (-HUGE, HUGE + 1), 0), ("most", 0, 1), ("is", self.NEAR), ("sum", 2, 3)])

    def test_programs(self):
        program = self.program()
        for place in (self.NEAR, self.FAR, (-HUGE, 1), NIL):
            where = [frac(place)]
            self.assertEqual(worths(program, [place]), pairs(reckoned(program[1], where)))
            self.assertEqual(worth(shortened(program), [place]), worth(unrolled(program), [place]))
            here = worth_of(program, where)
            self.assertEqual(worth(behind(program, program), [place]), pair(worth_of(program, [here])))
            self.assertEqual(worth(stirred(program, 4), [place, self.FAR]), pair(here + frac(self.FAR)))
            told = side(program, [place], [MINUS])
            self.assertEqual((told.value, told.beyond, told.slope, told.reach), side_of(program, [place], [MINUS]))
            far = worth(carried(program, [place], [self.FAR]), [self.NEAR])
            self.assertEqual(far, pair(worth_of(program, [frac(place) + frac(self.FAR) * frac(self.NEAR)])))
        self.assertEqual(marks(program), ["straight", "straight", "down", "level", "down"])

    def test_pictures(self):
        program = self.program()
        low, high = (-HUGE, 1), self.FAR
        made = picture(program, low, high)
        self.assertEqual(fields(made), picture_of(program, low, high))
        self.assertEqual((least(made).value, least(made).place), (self.NEAR, NIL))
        self.assertEqual(greatest(made).place, high)
        self.assertEqual(spans(made, self.NEAR), [(NIL, NIL, True, True)])
        self.assertEqual(spans(made, worth(program, [self.FAR])), [(self.FAR, self.FAR, True, True)])
        self.assertEqual(descent(made, low), [low, NIL])
        self.assertEqual(jumps(made), [])
        told = slope_at(program, NIL)
        self.assertEqual((told.below, told.above), ((-HUGE, HUGE + 1), ONE))
        upper = picture(program, NIL, high)
        self.assertEqual(fields(backwards(backwards(upper))), fields(upper))
        self.assertEqual(fields(scaled(together(made, made), HALF)), fields(made))
        self.assertEqual(fields(mirrored(mirrored(made))), fields(made))
        self.assertIs(type(compared(made, scaled(made, ONE))), Alike)
        wide = frac(high)
        self.assertEqual(area(upper), pair(wide * wide / 2 + wide * frac(self.NEAR)))

    def test_two_inputs(self):
        program = (2, [X, Y, ("by", (HUGE, 1), 1), ("least", 0, 2), ("most", 0, 2), ("sum", 3, 4)])
        self.assertEqual(flat(program, [NIL, NIL]).slopes, [ONE, (HUGE, 1)])
        kinked = flat((2, program[1][:4]), [(HUGE, 1), ONE])
        self.assertIs(kinked.shows((2, program[1][:4]), [(HUGE, 1), ONE]), True)
        told = tuned(program, [(HUGE, 1), self.NEAR], 1, (-HUGE, 1), (HUGE, 1), (HUGE, 1))
        self.assertEqual(told, [((-1, HUGE + 1), (-1, HUGE + 1), True, True)])


class TestBounds(unittest.TestCase):
    """Programs at the bounds of [4]."""

    def greatest_programs(self):
        """Programs of 120 steps run and up to 8 choices."""
        lines = [X]
        for at in range(8):
            lines.append(("is", pair(Fraction(at - 4, 2))))
            lines.append(("sum", 0, len(lines) - 1))
            lines.append(("most" if at % 3 else "least", len(lines) - 1, max(0, len(lines) - 3)))
            lines.append(("by", (-3, 2) if at % 2 else (1, 2), len(lines) - 1))
        many = lines + [("sum", len(lines) + at - 1, 0) for at in range(120 - len(lines))]
        body = TENT + [("is", pair(at)) for at in range(12)] + [("sum", 5, 0)]
        return [
            (1, many), (1, [X, ("turns", 6, 0, body), ("turns", 0, 1, [X] * 120), ("most", 1, 0), ("least", 3, 0), X]),
            (1, [X, X] + [("turns", 6, at + 1, [X, ("by", (-9, 8), 0)]) for at in range(9)] + [("sum", 10, 10)]),
        ]

    def test_at_the_bounds(self):
        for program in self.greatest_programs():
            self.assertEqual(size(program)[0], 120)
            for place in (NIL, (3, 7), (-5, 2)):
                where = [frac(place)]
                self.assertEqual(worths(program, [place]), pairs(reckoned(program[1], where)))
                self.assertEqual(worth(unrolled(program), [place]), pair(worth_of(program, where)))
                self.assertEqual(worth(shortened(program), [place]), pair(worth_of(program, where)))
                self.assertEqual(worth(fixed(program, [ONE], 0), [place]), pair(worth_of(program, where)))
                told = side(program, [place], [ONE])
                self.assertEqual((told.value, told.beyond, told.slope, told.reach), side_of(program, [place], [ONE]))
            made = picture(program, (-3, 1), (3, 1))
            self.assertEqual(fields(made), picture_of(program, (-3, 1), (3, 1)))
            self.assertEqual(len(marks(program)), len(program[1]))
            for act in (lambda: stirred(program, 0), lambda: carried(program, [NIL], [ONE]),
                        lambda: tuned(program, [NIL], 0, NIL, ONE, NIL), lambda: behind(program, (1, [X]))):
                with self.assertRaises(BendError):
                    act()

    def test_one_beyond_is_refused_everywhere(self):
        for program in self.greatest_programs():
            program[1].append(X)
            for act, (make, rows) in DOORS.items():
                parts = make()
                if isinstance(parts[0], tuple) and isinstance(parts[0][1], list):
                    parts[0] = program
                    with self.assertRaises(rows[0][0]):
                        act(*parts)

    def test_nine_choices_are_refused_everywhere(self):
        for act, (make, rows) in DOORS.items():
            parts = make()
            if isinstance(parts[0], tuple) and isinstance(parts[0][1], list):
                for more in ([("most", 0, 0)] * 9, [("turns", 3, 0, [X] + [("if", 0, 0, 0)] * 3)]):
                    parts[0] = (parts[0][0], [X] + more)
                    with self.assertRaises(rows[0][0]):
                        act(*parts)


class TestTents(unittest.TestCase):
    """Tents in eight turns: 256 pieces."""

    def setUp(self):
        self.made = picture(TENTS, NIL, ONE)

    def at(self, many):
        return pair(Fraction(many, 256))

    def test_pieces_and_area(self):
        self.assertEqual(len(self.made.pieces), 256)
        self.assertEqual(area(self.made), HALF)
        self.assertEqual(area(scaled(self.made, (-2, 3))), (-1, 3))

    def test_spans(self):
        self.assertEqual(spans(self.made, NIL), [(self.at(at), self.at(at), True, True) for at in range(0, 257, 2)])
        self.assertEqual(spans(self.made, ONE), [(self.at(at), self.at(at), True, True) for at in range(1, 257, 2)])
        wanted = [pair(Fraction(2 * at + 1, 512)) for at in range(256)]
        self.assertEqual(spans(self.made, HALF), [(place, place, True, True) for place in wanted])
        self.assertEqual(spans(self.made, MINUS), [])

    def test_bends(self):
        for at in range(257):
            told = slope_at(TENTS, self.at(at))
            if at in (0, 256):
                self.assertIs(type(told), Smooth)
                self.assertEqual(told.slope, (256 if at == 0 else -256, 1))
            else:
                self.assertIs(type(told), Bent)
                self.assertEqual((told.below, told.above), ((256, 1), (-256, 1)) if at % 2 else ((-256, 1), (256, 1)))

    def test_the_rest(self):
        self.assertEqual(jumps(self.made), [])
        self.assertEqual((least(self.made).value, greatest(self.made).value), (NIL, ONE))
        self.assertIs(type(rising(self.made)), Falls)
        for at in range(0, 257):
            self.assertIs(rests(self.made, self.at(at)), at % 2 == 0)
            self.assertEqual(descent(self.made, self.at(at)), [self.at(at)] + [self.at(at + 1)] * (at % 2))
        self.assertEqual(fields(mirrored(mirrored(self.made))), fields(self.made))
        turned = picture((1, [*TENTS[1], ("by", MINUS, 2), ("is", ONE), ("sum", 3, 4)]), NIL, ONE)
        both = together(self.made, turned)
        self.assertEqual(fields(both), ([NIL, ONE], [ONE, ONE], [(ONE, NIL)]))
        self.assertEqual(len(lesser(self.made, turned).pieces), 512)
        self.assertEqual(area(lesser(self.made, turned)), (1, 4))
        self.assertEqual(area(greater(self.made, turned)), (3, 4))
        self.assertEqual(spans(greater(self.made, turned), HALF), spans(self.made, HALF))

    def test_tuned(self):
        told = tuned((1, TENTS[1]), [NIL], 0, NIL, ONE, HALF)
        self.assertEqual(told, spans(self.made, HALF))


class TestManyPieces(unittest.TestCase):
    """Pictures of some hundred pieces."""

    def test_all_that_is_found(self):
        chance = random.Random(102)
        places = [pair(Fraction(at, 3)) for at in range(401)]
        waves = stretched(places, [pair(chance.randint(-9, 9)) for place in places])
        steep = stretched(places, [pair(at * at) for at in range(401)])
        both = together(waves, steep)
        low, high = lesser(waves, steep), greater(waves, steep)
        for place in places[::7] + [pair(Fraction(at, 7)) for at in range(1, 900, 13)]:
            one, other = told_at(waves, frac(place)), told_at(steep, frac(place))
            for made, wanted in ((both, one + other), (low, min(one, other)), (high, max(one, other))):
                self.assertEqual(worth_at(made, place), pair(wanted))
        self.assertEqual(frac(area(both)), frac(area(waves)) + frac(area(steep)))
        self.assertEqual(frac(area(low)) + frac(area(high)), frac(area(both)))
        self.assertIs(type(rising(steep)), Rising)
        self.assertIs(type(rising(waves)), Falls)
        self.assertEqual(fields(backwards(backwards(steep))), fields(steep))
        for value in (-9, 0, 4):
            told = spans(waves, pair(value))
            for place in cells(waves, [pair(value)])[:300]:
                inside = any(frac(span[0]) <= place <= frac(span[1]) for span in told)
                self.assertEqual(inside, told_at(waves, place) == value)

    def test_many_jumps(self):
        places = [pair(at) for at in range(301)]
        stairs = Picture(places, places, [(place, NIL) for place in places[:-1]])
        self.assertEqual(jumps(stairs), places[1:])
        self.assertEqual(spans(stairs, (7, 1)), [((7, 1), (8, 1), True, False)])
        self.assertEqual(spans(stairs, (300, 1)), [((300, 1), (300, 1), True, True)])
        self.assertEqual(area(stairs), (299 * 150, 1))
        self.assertEqual(limits(stairs, (9, 1)), (((8, 1), NIL), ((9, 1), NIL)))
        self.assertEqual(fields(tidy(stairs)), fields(stairs))
        told = compared(stairs, stretched(places, places))
        self.assertIs(type(told), Differ)
        slants = Picture(places, [MINUS] * 301, [(NIL, ONE)] * 300)
        self.assertEqual((type(greatest(slants)), greatest(slants).value), (Near, ONE))
        self.assertEqual((type(least(slants)), least(slants).value), (Reached, MINUS))


if __name__ == "__main__":
    unittest.main()

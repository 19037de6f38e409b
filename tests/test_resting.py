"""bendwright/resting.py: promises [1], [22] and [23]."""

import copy
import itertools
import random
import unittest
from fractions import Fraction

from bendwright.errors import BadPicture, BadPlaces, BadProgram, Jumpy
from bendwright.finding import Reached, least
from bendwright.pictures import Picture, mirrored, picture, scaled, tidy
from bendwright.programs import PLAIN_STEPS
from bendwright.resting import descent, marks, rests
from tests.building import X, Y, built, by, size_of
from tests.drawing import cells, fields, limit_at, stretched, told_at, unbroken_picture
from tests.reckoning import frac, pair, reckoned, some_places, some_program
from tests.wrong import BAD_PROGRAMS, NOT_NUMBERS, bad_pictures

HUGE = 10 ** 3000
NIL, ONE, MINUS = (0, 1), (1, 1), (-1, 1)
MARKS = ("level", "straight", "down", "up", "none")

# For each mark a step that has it, those ahead being all steps up to it.
MARKED = [
    ("is", (3, 1)), X, ("most", 0, 1), ("least", 0, 1), ("if", 0, 1, 2),
]


def sum_mark(one, other):
    if {one, other} == {"level"}:
        return "level"
    if "none" in (one, other) or {one, other} == {"up", "down"}:
        return "none"
    if "down" in (one, other):
        return "down"
    return "up" if "up" in (one, other) else "straight"


def most_mark(one, other):
    if {one, other} == {"level"}:
        return "level"
    return "none" if one in ("up", "none") or other in ("up", "none") else "down"


def least_mark(one, other):
    if {one, other} == {"level"}:
        return "level"
    return "none" if one in ("down", "none") or other in ("down", "none") else "up"


def without_turns(steps):
    """The steps with all bodies put out, each input of a body as a step of its own; the counts of the steps in it."""
    told, stands = [], []

    def put(step, ahead):
        kinds = PLAIN_STEPS[step[0]]
        parts = [ahead[part] if kind == "step" else part for part, kind in zip(step[1:], kinds)]
        told.append((step[0], *parts))
        return len(told) - 1

    for step in steps:
        if step[0] != "turns":
            stands.append(put(step, stands))
            continue
        start = stands[step[2]]
        for turn in range(step[1]):
            inner = []
            for part in step[3]:
                inner.append(put(("by", ONE, 0), [start]) if part[0] == "in" else put(part, inner))
            start = inner[-1]
        stands.append(put(("by", ONE, 0), [start]))
    return told, stands


class TestMarks(unittest.TestCase):
    """[22]."""

    def marked(self, steps, *wanted):
        """The marks of the steps behind those of MARKED."""
        told = marks((1, MARKED + steps))
        self.assertIs(type(told), list)
        self.assertEqual(told[:5], list(MARKS))
        self.assertEqual(told[5:], list(wanted), steps)

    def test_is_and_in(self):
        self.assertEqual(marks((1, [("is", NIL)])), ["level"])
        self.assertEqual(marks((3, [("in", 0), ("in", 1), ("in", 2)])), ["straight"] * 3)

    def test_sums(self):
        for one, other in itertools.product(range(5), repeat=2):
            self.marked([("sum", one, other)], sum_mark(MARKS[one], MARKS[other]))

    def test_sums_by_hand(self):
        for one, other, wanted in (
            (0, 0, "level"), (0, 1, "straight"), (1, 1, "straight"), (0, 2, "down"), (1, 2, "down"), (2, 2, "down"),
            (0, 3, "up"), (1, 3, "up"), (3, 3, "up"), (2, 3, "none"), (0, 4, "none"), (1, 4, "none"), (2, 4, "none"),
            (3, 4, "none"), (4, 4, "none"),
        ):
            self.marked([("sum", one, other), ("sum", other, one)], wanted, wanted)

    def test_by(self):
        for at, mark in enumerate(MARKS):
            turned = {"down": "up", "up": "down"}.get(mark, mark)
            for number in (ONE, (1, HUGE), (7, 2)):
                self.marked([("by", number, at)], mark)
                self.marked([("by", (-number[0], number[1]), at)], turned)
            self.marked([("by", NIL, at)], "level")

    def test_most_and_least(self):
        for one, other in itertools.permutations(range(5), 2):
            self.marked([("most", one, other)], most_mark(MARKS[one], MARKS[other]))
            self.marked([("least", one, other)], least_mark(MARKS[one], MARKS[other]))

    def test_most_and_least_by_hand(self):
        for one, other, most, lesser in (
            (0, 1, "down", "up"), (0, 2, "down", "none"), (1, 2, "down", "none"), (0, 3, "none", "up"),
            (1, 3, "none", "up"), (2, 3, "none", "none"), (0, 4, "none", "none"), (1, 4, "none", "none"),
            (2, 4, "none", "none"), (3, 4, "none", "none"),
        ):
            self.marked([("most", one, other), ("most", other, one)], most, most)
            self.marked([("least", one, other), ("least", other, one)], lesser, lesser)

    def test_most_and_least_of_two_alike(self):
        # Two steps of one mark each: only one step twice keeps it.
        again = [("is", ONE), X, ("most", 5, 6), ("least", 5, 6), ("if", 5, 6, 7)]
        for at, (most, lesser) in enumerate((
            ("level", "level"), ("down", "up"), ("down", "none"), ("none", "up"), ("none", "none"),
        )):
            self.marked(again + [("most", at, at + 5), ("least", at, at + 5)], *MARKS, most, lesser)

    def test_one_step_twice(self):
        for at, mark in enumerate(MARKS):
            for word in ("most", "least"):
                self.marked([(word, at, at)], mark)

    def test_if(self):
        for first, one, other in itertools.product(range(5), repeat=3):
            self.marked([("if", first, one, other)], MARKS[one] if one == other else "none")

    def test_turns_of_no_times(self):
        for at, mark in enumerate(MARKS):
            self.marked([("turns", 0, at, [("is", ONE)])], mark)
            self.marked([("turns", 0, at, [X, ("by", MINUS, 0)])], mark)

    def test_turns_of_several_times(self):
        fold = [X, ("by", MINUS, 0), ("most", 0, 1)]
        for many in range(1, 7):
            self.marked([("turns", many, 2, [X, ("by", MINUS, 0)])], "up" if many % 2 else "down")
            self.marked([("turns", many, 1, [X, ("by", MINUS, 0)])], "straight")
            for at, mark in enumerate(MARKS):
                self.marked([("turns", many, at, [X])], mark)
                self.marked([("turns", many, at, [("is", ONE)])], "level")
                self.marked([("turns", many, at, [X, ("by", NIL, 0)])], "level")
                if many <= 5:
                    self.marked([("turns", many, at, [X, ("is", ONE), ("if", 0, 1, 0)])], "none")
                self.marked([("turns", many, at, [X, ("is", ONE), ("sum", 0, 1)])], mark)
            # The first time the fold is marked down, from then on both ways of it bulge apart.
            self.assertEqual(marks((1, [X, ("turns", many, 0, fold)]))[-1], "down" if many == 1 else "none")
            self.assertEqual(marks((1, [("is", ONE), ("turns", many, 0, fold)]))[-1], "level")

    def test_a_body_that_changes_the_mark_from_time_to_time(self):
        # Level for as long as what comes in is: then straight with the outer input isn't reached.
        hinge = [X, ("is", ONE), ("most", 0, 1)]
        for many in range(1, 7):
            self.assertEqual(marks((1, [X, ("turns", many, 0, hinge)]))[-1], "down")
            down = [X, ("is", ONE), ("least", 0, 1), ("by", MINUS, 2)]
            # Up, then turned down; then least of down is none, which stays.
            self.assertEqual(marks((1, [X, ("turns", many, 0, down)]))[-1], "down" if many == 1 else "none")
            swing = [X, ("is", ONE), ("by", MINUS, 0), ("most", 2, 1)]
            self.assertEqual(marks((1, [X, ("turns", many, 0, swing)]))[-1], "down" if many == 1 else "none")
            lower = [X, ("is", ONE), ("least", 0, 1), ("sum", 2, 0)]
            self.assertEqual(marks((1, [X, ("turns", many, 0, lower)]))[-1], "up")

    def test_bodies_have_one_input_marked_as_the_step(self):
        body = [X, ("in", 0), ("sum", 0, 1)]
        self.marked([("turns", 2, at, body) for at in range(5)], *MARKS)
        program = (2, [Y, ("most", 0, 0), X, ("most", 0, 2), ("turns", 1, 3, body)])
        self.assertEqual(marks(program), ["straight", "straight", "straight", "down", "down"])

    def test_as_without_turns(self):
        chance = random.Random(81)
        seen = 0
        for turn in range(300):
            program = some_program(chance, chance.randint(1, 3), chance.randint(1, 10), 2)
            plain, stands = without_turns(program[1])
            if len(plain) <= 120:
                seen += any(step[0] == "turns" and step[1] > 1 for step in program[1])
                told = marks((program[0], plain))
                self.assertEqual(marks(program), [told[at] for at in stands])
        self.assertGreater(seen, 50)

    def test_what_marks_say(self):
        chance = random.Random(82)
        seen = dict.fromkeys(MARKS, 0)
        for turn in range(300):
            inputs = chance.randint(1, 3)
            program = some_program(chance, inputs, chance.randint(2, 10), 1)
            told = marks(program)
            self.assertEqual(len(told), len(program[1]))
            for mark in told:
                seen[mark] += 1
            for pick in range(6):
                one, other = [[frac(place) for place in some_places(chance, inputs)] for k in range(2)]
                part = Fraction(chance.randint(1, 9), 10)
                between = [low + part * (high - low) for low, high in zip(one, other)]
                rows = [reckoned(program[1], places) for places in (one, other, between)]
                for mark, low, high, middle in zip(told, *rows):
                    ahead = middle - (low + part * (high - low))
                    self.assertTrue(mark in ("up", "none") or ahead <= 0, mark)
                    self.assertTrue(mark in ("down", "none") or ahead >= 0, mark)
                    self.assertTrue(mark != "level" or low == high)
        self.assertGreater(min(seen.values()), 40)

    def test_refused(self):
        for bad in BAD_PROGRAMS:
            with self.assertRaises(BadProgram):
                marks(bad)

    def test_nothing_is_kept(self):
        program = (1, MARKED + [("turns", 2, 0, [X, ("by", MINUS, 0)])])
        wanted = copy.deepcopy(program)
        told = marks(program)
        told.clear()
        self.assertEqual(program, wanted)
        self.assertEqual(len(marks(program)), 6)


def hill(*worths):
    """A picture without jumps through the worths at 0, 1 and so on."""
    return stretched([pair(place) for place in range(len(worths))], [pair(worth) for worth in worths])


class TestResting(unittest.TestCase):
    """[23]."""

    def goes(self, made, *places):
        """Where one goes down, told by whole numbers or fractions."""
        told = descent(made, pair(places[0]))
        self.assertIs(type(told), list)
        self.assertEqual(told, [pair(place) for place in places])
        for at, place in enumerate(told):
            self.assertIs(type(place), tuple)
            self.assertIs(rests(made, place), at == len(told) - 1)
            self.assertEqual(descent(made, place), told[at:])

    def reckoned(self, made, place):
        """All places on the way down by fractions."""
        spots = [frac(spot) for spot in tidy(made).places]
        found = [place]
        while True:
            below, above = limit_at(made, found[-1], -1), limit_at(made, found[-1], 1)
            if above is not None and above[1] < 0:
                found.append(min(spot for spot in spots if spot > found[-1]))
            elif below is not None and below[1] > 0:
                found.append(max(spot for spot in spots if spot < found[-1]))
            else:
                return found

    def test_a_fold(self):
        made = picture(built(1, size_of(X)), (-2, 1), (3, 1))
        for place in (-2, -1, Fraction(-1, HUGE), Fraction(1, HUGE), 1, 3):
            self.goes(made, place, 0)
        self.goes(made, 0)

    def test_over_several_places(self):
        made = hill(9, 5, 2, 1, 3, 7, 12)
        self.goes(made, 0, 1, 2, 3)
        self.goes(made, 6, 5, 4, 3)
        self.goes(made, Fraction(1, 2), 1, 2, 3)
        self.goes(made, Fraction(11, 2), 5, 4, 3)
        self.goes(made, 3)
        self.goes(made, Fraction(7, 2), 3)

    def test_up_first_then_down(self):
        made = hill(0, 5, 1)
        self.goes(made, 1, 2)
        self.goes(made, Fraction(HUGE - 1, HUGE), 0)
        self.goes(made, Fraction(HUGE + 1, HUGE), 2)
        self.goes(hill(0, 1, 5, 4, 2, 4), 2, 3, 4)
        self.goes(hill(0, 1, 5, 4, 2, 4), Fraction(3, 2), 1, 0)

    def test_ends(self):
        made = hill(0, 1)
        self.goes(made, 0)
        self.goes(made, 1, 0)
        self.goes(made, Fraction(1, 2), 0)
        made = hill(1, 0)
        self.goes(made, 0, 1)
        self.goes(made, 1)
        self.goes(made, Fraction(1, 2), 1)

    def test_level_pieces(self):
        made = hill(3, 1, 1, 4)
        for place in (1, Fraction(3, 2), 2):
            self.goes(made, place)
        self.goes(made, 0, 1)
        self.goes(made, 3, 2)
        self.goes(hill(2, 2), 0)
        self.goes(hill(2, 2), 1)
        self.goes(hill(2, 2), Fraction(1, 3))
        # On a level stretch above a slope one rests, but not at its end.
        made = hill(1, 3, 3, 0)
        self.goes(made, Fraction(3, 2))
        self.goes(made, 1, 0)
        self.goes(made, 2, 3)

    def test_the_places_of_the_tidy_picture(self):
        made = hill(6, 5, 4, 3, 2, 4, 6, 8)
        self.goes(made, 0, 4)
        self.goes(made, 1, 4)
        self.goes(made, 7, 4)
        self.goes(made, 5, 4)
        self.goes(made, Fraction(3, 2), 4)
        self.goes(hill(0, 1, 2, 3), 3, 0)
        self.goes(hill(0, 1, 2, 3), 1, 0)
        self.goes(hill(3, 2, 1, 0), 1, 3)

    def test_many_pieces(self):
        made = hill(*[(place - 150) ** 2 for place in range(301)])
        self.goes(made, *range(0, 151))
        self.assertEqual(descent(made, (300, 1)), [pair(place) for place in range(300, 149, -1)])

    def test_numbers_of_any_size(self):
        made = stretched([(-HUGE, 1), (1, HUGE), (HUGE + 1, 1)], [ONE, NIL, ONE])
        self.assertEqual(descent(made, NIL), [NIL, (1, HUGE)])
        self.assertEqual(descent(made, (HUGE, 1)), [(HUGE, 1), (1, HUGE)])
        self.assertIs(rests(made, (1, HUGE)), True)
        self.assertIs(rests(made, NIL), False)

    def test_at_random(self):
        chance = random.Random(83)
        for turn in range(250):
            made = unbroken_picture(chance, [1, -1, 2, -3, 0])
            for place in cells(made):
                wanted = self.reckoned(made, place)
                self.goes(made, *wanted)
                self.assertLessEqual(told_at(made, wanted[-1]), told_at(made, place))

    def test_of_a_program_marked_down_it_is_the_least(self):
        chance = random.Random(84)
        for turn in range(60):
            lines = [("sum", by(chance.randint(-4, 4), X), ("is", pair(chance.randint(-3, 3)))) for k in range(5)]
            term = lines[0]
            for line in lines[1:]:
                term = ("most", term, line)
            program = built(1, term)
            self.assertIn(marks(program)[-1], ("down", "straight", "level"))
            made = picture(program, (-3, 1), (4, 1))
            bound = least(made)
            self.assertIs(type(bound), Reached)
            for place in ((-3, 1), (-1, 2), NIL, (4, 1)):
                self.assertEqual(pair(told_at(made, frac(descent(made, place)[-1]))), bound.value)

    def test_mirrored(self):
        made = hill(9, 5, 2, 1, 3, 7, 12)
        self.assertEqual(descent(mirrored(made), (-6, 1)), [(-6, 1), (-5, 1), (-4, 1), (-3, 1)])
        self.assertEqual(descent(scaled(made, MINUS), (3, 1)), [(3, 1), (4, 1), (5, 1), (6, 1)])


class TestRefusals(unittest.TestCase):
    JUMPY = [
        Picture([NIL, ONE], [ONE, ONE], [(NIL, ONE)]), Picture([NIL, ONE], [NIL, NIL], [(NIL, ONE)]),
        Picture([NIL, ONE, (2, 1)], [NIL, ONE, (3, 1)], [(NIL, ONE), ((2, 1), ONE)]),
        Picture([NIL, ONE, (2, 1)], [NIL, (2, 1), (3, 1)], [(NIL, ONE), ((2, 1), ONE)]),
        Picture([NIL, ONE, (2, 1)], [NIL, (2, 1), (2, 1)], [(NIL, ONE), (ONE, ONE)]),
        Picture([NIL, ONE], [NIL, pair(1 + Fraction(1, HUGE))], [(NIL, ONE)]),
    ]

    def refused(self, error, *parts):
        for act in (descent, rests):
            with self.assertRaises(error):
                act(*parts)

    def test_no_picture(self):
        for bad in bad_pictures(Picture):
            self.refused(BadPicture, bad, NIL)
            self.refused(BadPicture, bad, None)

    def test_one_that_jumps(self):
        for made in self.JUMPY:
            for place in (NIL, ONE, (1, 2), (9, 1), None, (2, 2)):
                self.refused(Jumpy, made, place)
            self.refused(BadPicture, Picture(made.places, made.worths, []), NIL)

    def test_no_place(self):
        for bad in NOT_NUMBERS + [(-1, 1), (3, 1), (-1, HUGE), pair(2 + Fraction(1, HUGE))]:
            self.refused(BadPlaces, hill(0, 1, 0), bad)


class TestNothingKept(unittest.TestCase):
    def test_nothing_handed_in_is_changed(self):
        made = hill(6, 5, 4, 3, 2, 4)
        descent(made, NIL)
        rests(made, NIL)
        self.assertEqual(fields(made), fields(hill(6, 5, 4, 3, 2, 4)))

    def test_what_is_told_is_new(self):
        made, place = hill(9, 5, 2), tuple([0, 1])
        first, second = descent(made, place), descent(made, place)
        self.assertFalse(any(number is other for number in first for other in [*made.places, place]))
        first.clear()
        self.assertEqual(second, [NIL, ONE, (2, 1)])


if __name__ == "__main__":
    unittest.main()

"""bendwright/slopes.py: promises [1], [20] and [21]."""

import copy
import random
import unittest
from fractions import Fraction

from bendwright.errors import BadPlaces, BadProgram, Others
from bendwright.mixing import Answer
from bendwright.programs import counts, size
from bendwright.slopes import Bent, Flat, Jumps, Kinked, Smooth, flat, slope_at
from tests.building import (
    MINUS, NIL, ONE, X, Y, ZERO, built, by, conic_term, gap, hidden_bends, is_kinked, size_of, slopes_of, with_inputs,
)
from tests.reckoning import bent_program, frac, pair, side_of, some_places, some_program
from tests.wrong import BAD_PROGRAMS, NOT_NUMBER_LISTS, NOT_NUMBERS

HUGE = 10 ** 3000
STEP = ("if", X, ("is", (-5, 1)), ("is", (5, 1)))
LONE = ("if", size_of(X), ("is", (9, 1)), X)


class Checked(unittest.TestCase):
    def told(self, told, kind, **wanted):
        self.assertIs(type(told), kind)
        self.assertEqual(vars(told), wanted)

    def are_numbers(self, numbers):
        for number in numbers:
            self.assertIs(type(number), tuple)
            self.assertEqual(number, pair(frac(number)))


class TestSlopeAt(Checked):
    """[20]."""

    def test_smooth(self):
        self.told(slope_at(built(1, X), (3, 1)), Smooth, slope=ONE)
        self.told(slope_at(built(1, ("is", (7, 2))), (3, 1)), Smooth, slope=NIL)
        self.told(slope_at(built(1, size_of(X)), (-1, HUGE)), Smooth, slope=MINUS)
        self.told(slope_at(built(1, size_of(X)), (1, HUGE)), Smooth, slope=ONE)
        self.told(slope_at(built(1, STEP), (-1, HUGE)), Smooth, slope=NIL)
        self.told(slope_at(built(1, by(Fraction(-2, 3), X)), NIL), Smooth, slope=(-2, 3))

    def test_smooth_though_it_chooses_there(self):
        parts = ("sum", ("most", X, by(2, X)), ("least", X, by(2, X)))
        self.told(slope_at(built(1, parts), NIL), Smooth, slope=(3, 1))
        self.told(slope_at(built(1, ("if", X, by(4, X), by(4, X))), NIL), Smooth, slope=(4, 1))
        self.told(slope_at(built(1, ("if", size_of(X), ZERO, X)), NIL), Smooth, slope=ONE)

    def test_bent(self):
        self.told(slope_at(built(1, size_of(X)), NIL), Bent, below=MINUS, above=ONE)
        self.told(slope_at(built(1, ("least", X, ZERO)), NIL), Bent, below=ONE, above=NIL)
        self.told(slope_at(built(1, ("most", X, ("is", (2, 3)))), (2, 3)), Bent, below=NIL, above=ONE)

    def test_jumps(self):
        for one, two, three in ((1, 1, 2), (1, 2, 2), (1, 2, 1), (1, 2, 3)):
            parts = [("is", pair(number)) for number in (one, two, three)]
            term = ("if", size_of(X), parts[1], ("if", X, parts[0], parts[2]))
            told = slope_at(built(1, term), NIL)
            self.told(told, Jumps, below=pair(one), value=pair(two), above=pair(three))
            self.told(slope_at(built(1, term), (-1, HUGE)), Smooth, slope=NIL)
        self.told(slope_at(built(1, STEP), NIL), Jumps, below=(-5, 1), value=(-5, 1), above=(5, 1))
        self.told(slope_at(built(1, LONE), NIL), Jumps, below=NIL, value=(9, 1), above=NIL)
        turned = ("if", by(-1, X), ("is", (5, 1)), ("is", (-5, 1)))
        self.told(slope_at(built(1, turned), NIL), Jumps, below=(-5, 1), value=(5, 1), above=(5, 1))

    def test_in_turns(self):
        body = built(1, ("sum", size_of(X), ("is", MINUS)))[1]
        program = (1, [X, ("turns", 6, 0, body)])
        for at in range(-6, 7):
            told = slope_at(program, pair(at))
            if -6 < at < 6:
                below, above = (MINUS, ONE) if at % 2 else (ONE, MINUS)
                self.told(told, Bent, below=below, above=above)
        self.told(slope_at(program, (7, 1)), Smooth, slope=ONE)
        self.told(slope_at(program, (-7, 1)), Smooth, slope=MINUS)

    def test_numbers_of_any_size(self):
        program = built(1, ("most", by(HUGE, X), ("sum", by(HUGE + 1, X), ("is", (-HUGE, 1)))))
        self.told(slope_at(program, (HUGE, 1)), Bent, below=(HUGE, 1), above=(HUGE + 1, 1))

    def test_at_random(self):
        chance = random.Random(71)
        seen = {Smooth: 0, Bent: 0, Jumps: 0}
        for turn in range(500):
            if turn % 3 == 0:
                program, place = built(1, conic_term(chance, [X, X], chance.randint(1, 4), turn % 2)), NIL
            else:
                program = bent_program(chance, 1) if turn % 3 == 1 else some_program(chance, 1, 9, 1)
                place = some_places(chance, 1)[0]
            value, above, right, reach = side_of(program, [place], [ONE])
            value, below, left, reach = side_of(program, [place], [MINUS])
            left = pair(-frac(left))
            told = slope_at(program, place)
            seen[type(told)] += 1
            if value != above or value != below:
                self.told(told, Jumps, below=below, value=value, above=above)
            elif left == right:
                self.told(told, Smooth, slope=left)
            else:
                self.told(told, Bent, below=left, above=right)
            self.are_numbers(vars(told).values())
        self.assertGreater(min(seen.values()), 10)

    def test_the_classes(self):
        self.assertEqual([made.__bases__ for made in (Smooth, Bent, Jumps)], [(Answer,)] * 3)
        self.told(Smooth(ONE), Smooth, slope=ONE)
        self.told(Bent(ONE, NIL), Bent, below=ONE, above=NIL)
        self.told(Jumps(ONE, NIL, MINUS), Jumps, below=ONE, value=NIL, above=MINUS)

    def test_numbers_told_are_new(self):
        place = tuple([3, 7])
        told = slope_at(built(1, ("if", gap(X, ("is", place)), X, ("is", place))), place)
        self.told(told, Bent, below=ONE, above=NIL)
        told = slope_at(built(1, ("if", gap(X, ("is", place)), X, ZERO)), place)
        self.told(told, Jumps, below=place, value=place, above=NIL)
        self.assertFalse(any(number is place for number in vars(told).values()))


def turned_round(term, quarter):
    """The term with the inputs turned by quarters."""
    return with_inputs(term, [(X, Y), (Y, by(-1, X)), (by(-1, X), by(-1, Y)), (by(-1, Y), X)][quarter])


def wedge(wide, inner, outer):
    """The inner term just within a wedge above the first axis, so wide, else the outer one."""
    return ("if", ("least", Y, gap(by(wide, X), Y)), outer, inner)


FLATS = [
    (("is", (3, 1)), NIL, NIL), (X, ONE, NIL), (Y, NIL, ONE), (gap(by(2, X), by(3, Y)), (2, 1), (-3, 1)),
    (("sum", ("most", X, Y), ("least", X, Y)), ONE, ONE), (("if", X, Y, Y), NIL, ONE),
    (("if", X, by(3, Y), ("sum", Y, by(2, Y))), NIL, (3, 1)), (by(0, size_of(X)), NIL, NIL),
    (("if", size_of(Y), X, ("sum", X, by(5, Y))), ONE, (5, 1)),
    (("if", ("most", size_of(X), size_of(Y)), ZERO, X), ONE, NIL),
    (("turns", 3, X, [X, ("by", MINUS, 0), ("most", 0, 1), ("least", 0, 1), ("sum", 2, 3)]), NIL, NIL),
    (("turns", 0, ("sum", X, Y), [X, ("by", MINUS, 0), ("most", 0, 1)]), ONE, ONE),
    (("most", X, ("sum", Y, ("is", MINUS))), ONE, NIL), (("if", gap(X, ("is", (1, HUGE))), Y, ZERO), NIL, ONE),
    (wedge(Fraction(1, HUGE), ("sum", by(HUGE, X), Y), ("sum", Y, by(HUGE, X))), (HUGE, 1), ONE),
]

SPIKE = ("most", ZERO, ("least", Y, gap(by(Fraction(1, 1000), X), Y)))

KINKS = [
    size_of(X), size_of(Y), size_of(gap(X, Y)), ("most", X, Y), ("least", by(2, X), Y), STEP,
    ("if", gap(X, by(2, Y)), ZERO, ("is", ONE)), ("if", size_of(Y), ("is", ONE), ZERO), ("if", size_of(Y), X, Y),
    # Along one ray alone.
    ("if", size_of(Y), ("if", X, ZERO, ("is", ONE)), ZERO), ("if", size_of(Y), ("if", X, ZERO, X), ZERO),
    ("if", size_of(gap(by(3, X), by(2, Y))), ("if", X, ZERO, ("is", ONE)), ZERO),
    ("if", size_of(gap(by(3, X), by(2, Y))), ("if", X, ZERO, X), ZERO),
    # At the place alone, which all ways leave.
    ("if", ("most", size_of(X), size_of(Y)), ("is", ONE), ZERO),
    # Within a wedge.
    SPIKE, wedge(Fraction(1, HUGE), ("is", ONE), ZERO), wedge(Fraction(1, HUGE), X, ZERO),
    wedge(Fraction(1, 10 ** 9), ("is", ONE), ZERO), wedge(Fraction(1, 10 ** 9), Y, ZERO),
    ("sum", SPIKE, by(-1, turned_round(SPIKE, 2))), ("sum", SPIKE, turned_round(SPIKE, 2)),
    # As flat along the middle of the wedge, too.
    ("if", gap(by(3, X), Y), ZERO, ("if", gap(by(3, Y), X), ZERO, gap(X, Y))),
    ("if", gap(by(3, X), Y), X, ("if", gap(by(3, Y), X), X, ("sum", gap(X, Y), X))),
    # The same along both axes, either way.
    ("most", ("least", X, Y), ZERO), ("least", size_of(X), size_of(Y)), ("if", ("least", X, Y), ZERO, ("is", ONE)),
    # Odd: as much less behind as more ahead.
    ("sum", ("most", ("least", X, Y), ZERO), ("least", ("most", X, Y), ZERO)),
    ("if", X, ("if", by(-1, X), ZERO, ("is", MINUS)), ("is", ONE)),
]


class TestFlat(Checked):
    """[21]."""

    def well_flat(self, told, program, places, slopes):
        self.assertIs(type(told), Flat)
        self.assertEqual(vars(told), {"slopes": slopes})
        self.assertIs(type(told.slopes), list)
        self.are_numbers(told.slopes)
        self.assertIs(told.shows(program, places), True)

    def well_kinked(self, told, program, places):
        self.assertIs(type(told), Kinked)
        self.assertEqual(sorted(vars(told)), ["one", "other"])
        for ways in (told.one, told.other):
            self.assertIs(type(ways), list)
            self.assertEqual(len(ways), 2)
            self.are_numbers(ways)
        self.assertTrue(is_kinked(program, places, told.one, told.other))
        self.assertIs(told.shows(program, places), True)

    def checked(self, program, places):
        """What is told, by a reckoning very near the places."""
        slopes = slopes_of(program, [frac(place) for place in places])
        told = flat(program, places)
        if slopes is None:
            self.well_kinked(told, program, places)
        else:
            self.well_flat(told, program, places, slopes)
        return slopes

    def moved(self, term, places):
        """The program of a term, what it does at 0 done at the places."""
        news = [("sum", inlet, ("is", pair(-frac(place)))) for inlet, place in zip((X, Y), places)]
        return built(2, with_inputs(term, news))

    def test_flat(self):
        for term, first, second in FLATS:
            program = built(2, term)
            self.well_flat(flat(program, [NIL, NIL]), program, [NIL, NIL], [first, second])
            for one in ([NIL, NIL], [ONE, NIL], [NIL, ONE], [ONE, ONE], [MINUS, ONE]):
                for other in ([NIL, NIL], [MINUS, NIL], [NIL, MINUS], [ONE, (2, 1)]):
                    self.assertIs(Kinked(one, other).shows(program, [NIL, NIL]), False)

    def test_kinked(self):
        for term in KINKS:
            for quarter in range(4):
                program = built(2, turned_round(term, quarter))
                self.well_kinked(flat(program, [NIL, NIL]), program, [NIL, NIL])
                for slopes in ([NIL, NIL], [ONE, NIL], [NIL, ONE], [ONE, ONE], [MINUS, NIL], [NIL, MINUS]):
                    self.assertIs(Flat(slopes).shows(program, [NIL, NIL]), False)

    def test_elsewhere(self):
        for term in KINKS:
            for places in ([(1, 3), (-7, 2)], [(HUGE, 1), (-1, HUGE)]):
                program = self.moved(term, places)
                self.well_kinked(flat(program, places), program, places)
                beside = [pair(frac(places[0]) + Fraction(1, 3)), pair(frac(places[1]) + Fraction(5, 7))]
                told = flat(program, beside)
                self.assertIs(type(told), Flat)
                self.assertIs(told.shows(program, beside), True)
                self.assertIs(told.shows(program, places), False)

    def test_beside_its_bends(self):
        program = built(2, size_of(X))
        for place in (ONE, (1, HUGE), (HUGE, 1)):
            self.well_flat(flat(program, [place, NIL]), program, [place, NIL], [ONE, NIL])
            below = [(-place[0], place[1]), NIL]
            self.well_flat(flat(program, below), program, below, [MINUS, NIL])
            self.well_kinked(flat(program, [NIL, place]), program, [NIL, place])

    def test_at_random(self):
        chance = random.Random(72)
        seen = [0, 0]
        for turn in range(600):
            places = some_places(chance, 2)
            if turn % 3 == 0:
                term = hidden_bends(chance, [X, Y])
            else:
                term = conic_term(chance, [X, Y], chance.randint(1, 3), turn % 2)
            if turn % 4 == 0:
                term = ("sum", term, hidden_bends(chance, [X, Y]))
            program = self.moved(term, places)
            if counts(program[1])[1] <= 8:
                seen[self.checked(program, places) is None] += 1
        self.assertGreater(min(seen), 150)

    def test_bent_programs(self):
        chance = random.Random(73)
        for turn in range(200):
            program = bent_program(chance, 2) if turn % 2 else some_program(chance, 2, 10, 1)
            self.checked(program, some_places(chance, 2))

    def test_many_bends_at_one_place(self):
        # Folded and turned again and again, so that each fold bends within all wedges of those ahead.
        one, other = X, Y
        for turn in range(8):
            folded, part = size_of(one), Fraction(1, 2 + turn)
            one, other = gap(folded, by(part, other)), ("sum", by(part, folded), other)
        program = built(2, ("sum", by(0, one), other))
        self.assertEqual(size(program)[1], 8)
        self.assertIsNone(self.checked(program, [NIL, NIL]))
        nothing = (2, program[1] + [("by", NIL, len(program[1]) - 1)])
        self.assertEqual(self.checked(nothing, [NIL, NIL]), [NIL, NIL])


class TestShows(Checked):
    """[21], of answers made by hand."""

    def test_the_classes(self):
        self.assertEqual((Flat.__bases__, Kinked.__bases__), ((Answer,), (Answer,)))
        for made in (Flat, Kinked):
            self.assertIn("shows", vars(made))

    def test_the_lists_are_copied(self):
        slopes, one, other = [ONE, NIL], [NIL, ONE], [ONE, ONE]
        told, kinked = Flat(slopes), Kinked(one, other)
        for part in (slopes, one, other):
            part.clear()
        self.told(told, Flat, slopes=[ONE, NIL])
        self.told(kinked, Kinked, one=[NIL, ONE], other=[ONE, ONE])
        same = [ONE, NIL]
        kinked = Kinked(same, same)
        self.assertIsNot(kinked.one, kinked.other)

    def test_flat_by_its_field_as_it_stands(self):
        program = built(2, gap(by(2, X), by(3, Y)))
        told = Flat([(2, 1), (-3, 1)])
        self.assertIs(told.shows(program, [ONE, ONE]), True)
        for slopes in ([(2, 1), (3, 1)], [(-2, 1), (-3, 1)], [(-3, 1), (2, 1)], [pair(2 + Fraction(1, HUGE)), (-3, 1)],
                       [(2, 1), pair(-3 + Fraction(1, HUGE))], [NIL, NIL]):
            told.slopes = slopes
            self.assertIs(told.shows(program, [ONE, ONE]), False)
        told.slopes[:] = [(2, 1), (-3, 1)]
        self.assertIs(told.shows(program, [ONE, ONE]), True)

    def test_lists_of_other_lengths(self):
        level, bent = built(2, ("is", ONE)), built(2, size_of(X))
        for slopes in ([], [NIL], [NIL] * 3, [NIL] * 4):
            self.assertIs(Flat(slopes).shows(level, [NIL, NIL]), False)
            for good in ([ONE, NIL], [MINUS, NIL], [NIL, NIL]):
                for program in (level, bent, built(2, STEP)):
                    self.assertIs(Kinked(slopes, good).shows(program, [NIL, NIL]), False)
                    self.assertIs(Kinked(good, slopes).shows(program, [NIL, NIL]), False)
                    self.assertIs(Kinked(slopes, slopes).shows(program, [NIL, NIL]), False)
        told = Kinked([ONE, NIL], [MINUS, NIL])
        self.assertIs(told.shows(bent, [NIL, NIL]), True)
        told.one.append(NIL)
        self.assertIs(told.shows(bent, [NIL, NIL]), False)

    def test_kinked_by_its_fields_as_they_stand(self):
        bent = built(2, size_of(X))
        told = Kinked([], [])
        for one, other, wanted in (
            ([ONE, NIL], [MINUS, NIL], True), ([MINUS, NIL], [ONE, NIL], True), ([ONE, NIL], [ONE, NIL], False),
            ([ONE, NIL], [(-1, HUGE), NIL], True), ([NIL, ONE], [NIL, MINUS], False), ([ONE, ONE], [MINUS, ONE], True),
            ([NIL, NIL], [NIL, NIL], False), ([ONE, NIL], [NIL, NIL], False), ([NIL, ONE], [ONE, NIL], False),
        ):
            told.one, told.other = one, other
            self.assertIs(told.shows(bent, [NIL, NIL]), wanted, (one, other))
            self.assertIs(told.shows(bent, [ONE, NIL]), False)

    def test_along_both_together_alone(self):
        spread = ("least", gap(by(2, X), Y), gap(by(2, Y), X))
        for inner in (("is", ONE), X):
            program = built(2, ("if", spread, ZERO, inner))
            self.assertIs(Kinked([ONE, NIL], [NIL, ONE]).shows(program, [NIL, NIL]), True)
            self.assertIs(Kinked([ONE, NIL], [NIL, (1, 9)]).shows(program, [NIL, NIL]), False)
            self.assertIs(Kinked([ONE, NIL], [ONE, NIL]).shows(program, [NIL, NIL]), False)
            self.assertIs(Kinked([ONE, NIL], [MINUS, NIL]).shows(program, [NIL, NIL]), False)

    def test_along_one_of_them_alone(self):
        program = built(2, ("if", X, ("is", ONE), ZERO))
        for one, other in (([ONE, NIL], [MINUS, NIL]), ([ONE, NIL], [(-2, 1), NIL]), ([ONE, ONE], [MINUS, ONE])):
            self.assertIs(Kinked(one, other).shows(program, [NIL, NIL]), True)
            self.assertIs(Kinked(other, one).shows(program, [NIL, NIL]), True)
        self.assertIs(Kinked([MINUS, NIL], [NIL, ONE]).shows(program, [NIL, NIL]), False)

    def test_at_random(self):
        chance = random.Random(74)
        seen = [0, 0]
        for turn in range(400):
            program = built(2, conic_term(chance, [X, Y], chance.randint(1, 3), turn % 2))
            one, other = some_places(chance, 2), some_places(chance, 2)
            wanted = is_kinked(program, [NIL, NIL], one, other)
            seen[wanted] += 1
            self.assertIs(Kinked(one, other).shows(program, [NIL, NIL]), wanted)
        self.assertGreater(min(seen), 50)


class TestRefusals(unittest.TestCase):
    def refused(self, error, act, *parts):
        with self.assertRaises(error):
            act(*parts)

    def test_no_program(self):
        for bad in BAD_PROGRAMS:
            for place in (NIL, [NIL, NIL], None):
                self.refused(BadProgram, slope_at, bad, place)
                self.refused(BadProgram, flat, bad, place)

    def test_other_inputs(self):
        for place in (NIL, None, [NIL], [NIL, NIL]):
            for inputs in (2, 3):
                self.refused(Others, slope_at, (inputs, [X]), place)
            for inputs in (1, 3):
                self.refused(Others, flat, (inputs, [X]), place)

    def test_no_places(self):
        for bad in NOT_NUMBERS + [[NIL]]:
            self.refused(BadPlaces, slope_at, (1, [X]), bad)
            self.refused(BadPlaces, flat, (2, [X]), [bad, NIL])
            self.refused(BadPlaces, flat, (2, [X]), [NIL, bad])
        for bad in NOT_NUMBER_LISTS + [[], [NIL], [NIL] * 3, (NIL, NIL)]:
            self.refused(BadPlaces, flat, (2, [X]), bad)


class TestNothingKept(unittest.TestCase):
    def test_nothing_handed_in_is_changed(self):
        for term in (size_of(X), gap(X, Y)):
            program, places = built(2, term), [NIL, NIL]
            wanted = copy.deepcopy(program)
            told = flat(program, places)
            told.shows(program, places)
            self.assertEqual((program, places), (wanted, [NIL, NIL]))
            self.assertEqual(vars(told), vars(flat(program, places)))

    def test_fields_told_are_the_askers_own(self):
        for term in (size_of(X), gap(X, Y)):
            program = built(2, term)
            first, second = flat(program, [NIL, NIL]), flat(program, [NIL, NIL])
            wanted = copy.deepcopy(vars(second))
            for field in vars(first).values():
                field.clear()
            self.assertEqual(vars(second), wanted)
            self.assertEqual(vars(flat(program, [NIL, NIL])), wanted)


if __name__ == "__main__":
    unittest.main()

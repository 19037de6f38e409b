"""bendwright/sides.py: promises [1], [8] and [9]."""

import copy
import random
import unittest
from fractions import Fraction

from bendwright.errors import BadPlaces, BadProgram, BadWays
from bendwright.sides import Side, side
from bendwright.turning import shortened, unrolled
from tests.reckoning import bent_program, frac, pair, side_of, some_places, some_program, worth_of
from tests.wrong import BAD_PROGRAMS, NOT_NUMBER_LISTS, NOT_NUMBERS

IN = ("in", 0)
HUGE = 10 ** 3000
NIL = (0, 1)
ONE = (1, 1)
FOLD = (1, [IN, ("by", (-1, 1), 0), ("most", 0, 1)])
TENT = [IN, ("by", (-1, 1), 0), ("is", ONE), ("sum", 1, 2), ("least", 0, 3), ("by", (2, 1), 4)]
# -5 at 0 and below, 5 above it.
STAIR = (1, [IN, ("is", (-5, 1)), ("is", (5, 1)), ("if", 0, 1, 2)])


def fields(told):
    return (told.value, told.beyond, told.slope, told.reach)


class Checked(unittest.TestCase):
    def sided(self, program, places, ways, wanted):
        told = side(program, places, ways)
        self.assertIs(type(told), Side)
        self.assertEqual(fields(told), wanted)
        for number in fields(told):
            if number is not None:
                self.assertIs(type(number), tuple)
                self.assertEqual([type(part) for part in number], [int, int])

    def as_reckoned(self, program, places, ways):
        self.sided(program, places, ways, side_of(program, places, ways))


class TestEachStep(Checked):
    def test_is(self):
        for way in (NIL, ONE, (-3, 2)):
            self.sided((1, [("is", (7, 3))]), [(4, 1)], [way], ((7, 3), (7, 3), NIL, None))

    def test_in(self):
        program = (3, [IN, ("in", 2), ("in", 1)])
        self.sided(program, [ONE, (2, 1), (3, 1)], [(4, 1), (-5, 2), (6, 1)], ((2, 1), (2, 1), (-5, 2), None))
        self.sided(program, [ONE, (2, 1), (3, 1)], [(4, 1), NIL, (6, 1)], ((2, 1), (2, 1), NIL, None))

    def test_sum_and_by(self):
        program = (2, [IN, ("in", 1), ("by", (-2, 3), 1), ("sum", 0, 2)])
        self.sided(program, [ONE, (3, 1)], [(1, 2), ONE], ((-1, 1), (-1, 1), (-1, 6), None))
        self.sided((1, [IN, ("by", NIL, 0)]), [ONE], [ONE], (NIL, NIL, NIL, None))

    def test_most(self):
        self.sided(FOLD, [NIL], [ONE], (NIL, NIL, ONE, None))
        self.sided(FOLD, [NIL], [(-1, 1)], (NIL, NIL, ONE, None))
        self.sided(FOLD, [(-3, 1)], [(2, 1)], ((3, 1), (3, 1), (-2, 1), (3, 2)))
        self.sided(FOLD, [(-3, 1)], [(-2, 1)], ((3, 1), (3, 1), (2, 1), None))
        self.sided(FOLD, [(3, 1)], [(-1, 2)], ((3, 1), (3, 1), (-1, 2), (6, 1)))

    def test_least(self):
        for one, other in ((0, 1), (1, 0)):
            program = (2, [IN, ("in", 1), ("least", one, other)])
            self.sided(program, [ONE, (2, 1)], [ONE, NIL], (ONE, ONE, ONE, ONE))
            self.sided(program, [(2, 1), (2, 1)], [ONE, NIL], ((2, 1), (2, 1), NIL, None))
            self.sided(program, [(2, 1), (2, 1)], [(-1, 1), NIL], ((2, 1), (2, 1), (-1, 1), None))
            self.sided(program, [(3, 1), ONE], [(-1, 1), (-1, 1)], (ONE, ONE, (-1, 1), None))
            self.sided(program, [(3, 1), ONE], [ONE, (3, 1)], (ONE, ONE, (3, 1), ONE))
            self.sided(program, [(3, 1), (3, 1)], [ONE, ONE], ((3, 1), (3, 1), ONE, None))

    def test_if_that_jumps(self):
        self.sided(STAIR, [NIL], [ONE], ((-5, 1), (5, 1), NIL, None))
        self.sided(STAIR, [NIL], [(-1, 1)], ((-5, 1), (-5, 1), NIL, None))
        self.sided(STAIR, [NIL], [NIL], ((-5, 1), (-5, 1), NIL, None))
        self.sided(STAIR, [(2, 1)], [NIL], ((5, 1), (5, 1), NIL, None))
        self.sided(STAIR, [(-1, 1)], [(2, 1)], ((-5, 1), (-5, 1), NIL, (1, 2)))
        self.sided(STAIR, [(3, 1)], [(-2, 1)], ((5, 1), (5, 1), NIL, (3, 2)))
        self.sided(STAIR, [(3, 1)], [(2, 1)], ((5, 1), (5, 1), NIL, None))
        self.sided(STAIR, [(-3, 1)], [(-2, 1)], ((-5, 1), (-5, 1), NIL, None))

    def test_turns(self):
        program = (1, [IN, ("turns", 2, 0, TENT)])
        self.sided(program, [NIL], [ONE], (NIL, NIL, (4, 1), (1, 4)))
        self.sided(program, [NIL], [(-1, 1)], (NIL, NIL, (-4, 1), None))
        self.sided(program, [(1, 4)], [(-1, 1)], (ONE, ONE, (-4, 1), None))
        self.sided(program, [(1, 3)], [ONE], ((2, 3), (2, 3), (-4, 1), (1, 6)))
        self.sided((1, [IN, ("turns", 0, 0, TENT)]), [ONE], [(5, 1)], (ONE, ONE, (5, 1), None))
        stair = [IN, ("is", (-5, 1)), ("is", (5, 1)), ("if", 0, 1, 2), ("sum", 0, 3)]
        self.sided((1, [IN, ("turns", 2, 0, stair)]), [NIL], [ONE], ((-10, 1), (10, 1), ONE, None))
        self.sided((1, [IN, ("turns", 2, 0, stair)]), [(-2, 1)], [(3, 1)], ((-12, 1), (-12, 1), (3, 1), (2, 3)))


class TestReach(Checked):
    def test_several_choices_the_nearest_one_ends_it(self):
        steps = [IN, ("is", (5, 1)), ("least", 0, 1), ("is", (3, 1)), ("least", 2, 3), ("is", (4, 1)), ("least", 4, 5)]
        for at in range(1, len(steps) + 1):
            self.as_reckoned((1, steps[:at]), [NIL], [ONE])
        self.sided((1, steps), [NIL], [ONE], (NIL, NIL, ONE, (3, 1)))
        self.sided((1, [IN, ("is", (3, 1)), ("least", 0, 1), ("is", (5, 1)), ("least", 2, 3)]), [NIL], [ONE],
                   (NIL, NIL, ONE, (3, 1)))

    def test_both_sides_of_a_choice_alike(self):
        self.sided((1, [IN, ("if", 0, 0, 0)]), [(-1, 1)], [ONE], ((-1, 1), (-1, 1), ONE, None))
        program = (1, [IN, ("is", ONE), ("by", ONE, 0), ("if", 0, 0, 2)])
        self.sided(program, [(-1, 1)], [ONE], ((-1, 1), (-1, 1), ONE, None))
        self.sided(program, [ONE], [(-2, 1)], (ONE, ONE, (-2, 1), None))

    def test_a_choice_that_another_undoes(self):
        # The least and the most of two together are both together, wherever they cross.
        steps = [IN, ("by", (-2, 1), 0), ("is", (3, 1)), ("sum", 1, 2), ("least", 0, 3), ("most", 0, 3), ("sum", 4, 5)]
        self.sided((1, steps), [NIL], [ONE], ((3, 1), (3, 1), (-1, 1), None))
        # Once more bent behind that crossing, it ends there.
        steps = steps + [("most", 6, 0)]
        self.sided((1, steps), [NIL], [ONE], ((3, 1), (3, 1), (-1, 1), (3, 2)))
        self.sided((1, steps), [(3, 1)], [(-1, 1)], ((3, 1), (3, 1), (-1, 1), (3, 2)))

    def test_many_changes_of_sides_are_passed(self):
        # 2 to the 7 pieces that are put together with the same, turned over.
        steps = [IN, ("turns", 4, 0, TENT), ("turns", 3, 1, TENT), ("by", (-1, 1), 2), ("sum", 2, 3), ("sum", 4, 0)]
        self.sided((1, steps), [NIL], [ONE], (NIL, NIL, ONE, None))
        self.sided((1, steps + [("is", (9, 10)), ("least", 5, 6)]), [NIL], [ONE], (NIL, NIL, ONE, (9, 10)))

    def test_a_lone_worth_ends_it(self):
        # 0 or below and 0 or above at once: at 0 alone.
        steps = [IN, ("by", (-1, 1), 0), ("most", 0, 1), ("is", (9, 1)), ("if", 2, 3, 0)]
        self.sided((1, steps), [(-2, 1)], [ONE], ((-2, 1), (-2, 1), ONE, (2, 1)))
        self.sided((1, steps), [(3, 1)], [(-1, 2)], ((3, 1), (3, 1), (-1, 2), (6, 1)))
        self.sided((1, steps), [NIL], [ONE], ((9, 1), NIL, ONE, None))
        # A lone worth that is just what goes on there ends nothing.
        steps = [IN, ("by", (-1, 1), 0), ("most", 0, 1), ("by", (2, 1), 0), ("if", 2, 3, 0)]
        self.sided((1, steps), [(-2, 1)], [ONE], ((-2, 1), (-2, 1), ONE, None))

    def test_it_goes_on_at_the_place_but_not_beyond(self):
        self.sided(STAIR, [(-4, 1)], [ONE], ((-5, 1), (-5, 1), NIL, (4, 1)))
        jump = (1, [IN, ("is", (3, 1)), ("sum", 0, 1), ("if", 0, 0, 2)])
        self.sided(jump, [(-4, 1)], [ONE], ((-4, 1), (-4, 1), ONE, (4, 1)))
        # The same slope beyond, and the same worth at the place.
        self.sided(jump, [NIL], [ONE], (NIL, (3, 1), ONE, None))

    def test_only_the_slope_changes(self):
        program = (1, [IN, ("is", NIL), ("most", 0, 1)])
        self.sided(program, [(-4, 1)], [ONE], (NIL, NIL, NIL, (4, 1)))
        self.sided(program, [NIL], [ONE], (NIL, NIL, ONE, None))

    def test_a_choice_that_is_not_needed_ends_nothing(self):
        steps = [IN, ("is", NIL), ("most", 0, 1), ("by", (2, 1), 0)]
        self.sided((1, steps), [(-4, 1)], [ONE], ((-8, 1), (-8, 1), (2, 1), None))


class TestWays(Checked):
    HILL = (2, [IN, ("in", 1), ("least", 0, 1), ("is", (2, 1)), ("by", (-1, 1), 3), ("sum", 2, 4), ("if", 5, 0, 5)])

    def test_along_one_input_and_along_none(self):
        for places in ([NIL, NIL], [(2, 1), (3, 1)], [(3, 1), (2, 1)], [(-1, 2), (5, 1)], [(7, 1), (7, 1)]):
            for one, other in ((1, 0), (0, 1), (-2, 0), (0, -2), (0, 0), (1, 1), (1, -1)):
                ways = [pair(one), pair(other)]
                self.as_reckoned(self.HILL, places, ways)

    def test_along_none_it_stays(self):
        for place in (NIL, (1, 2), (-1, 2)):
            wanted = pair(worth_of(STAIR, [frac(place)]))
            self.sided(STAIR, [place], [NIL], (wanted, wanted, NIL, None))

    def test_longer_ways_reach_less_far(self):
        for far in (1, 2, 7, HUGE):
            self.sided(FOLD, [(-1, 1)], [(far, 1)], (ONE, ONE, (-far, 1), (1, far)))
            self.sided(FOLD, [(-1, 1)], [(1, far)], (ONE, ONE, (-1, far), (far, 1)))

    def test_numbers_of_any_size(self):
        self.sided(FOLD, [(HUGE + 1, HUGE)], [(-1, 1)], ((HUGE + 1, HUGE), (HUGE + 1, HUGE), (-1, 1), (HUGE + 1, HUGE)))
        self.sided(STAIR, [(-1, HUGE)], [ONE], ((-5, 1), (-5, 1), NIL, (1, HUGE)))


class TestMany(Checked):
    def test_bent_programs(self):
        chance = random.Random(21)
        ends = {}
        for turn in range(700):
            inputs = chance.randint(1, 3)
            program = bent_program(chance, inputs)
            for spot in range(2):
                places, ways = some_places(chance, inputs), some_places(chance, inputs)
                self.as_reckoned(program, places, ways)
                told = side(program, places, ways)
                kind = (told.reach is None, told.value == told.beyond)
                ends[kind] = ends.get(kind, 0) + 1
                # From where a choice stands just even.
                if told.reach is not None:
                    there = [pair(frac(place) + frac(told.reach) * frac(way)) for place, way in zip(places, ways)]
                    self.as_reckoned(program, there, ways)
                    self.as_reckoned(program, there, [(-way[0], way[1]) for way in ways])
        self.assertEqual(len(ends), 4)

    def test_other_programs(self):
        chance = random.Random(22)
        for turn in range(300):
            inputs = chance.randint(1, 3)
            program = some_program(chance, inputs, chance.randint(1, 14), 2)
            places, ways = some_places(chance, inputs), some_places(chance, inputs)
            self.as_reckoned(program, places, ways)
            for same in (unrolled(program), shortened(program)):
                self.assertEqual(fields(side(same, places, ways)), fields(side(program, places, ways)))


class TestShows(unittest.TestCase):
    def shown(self, told, far, wanted):
        self.assertEqual(told.shows(far), wanted)

    def test_below_at_and_beyond_the_reach(self):
        told = Side((9, 1), (1, 2), (-3, 1), (2, 1))
        self.shown(told, (1, 3), (-1, 2))
        self.shown(told, (1, HUGE), pair(Fraction(1, 2) - Fraction(3, HUGE)))
        self.shown(told, (HUGE * 2 - 1, HUGE), pair(Fraction(1, 2) - 3 * Fraction(HUGE * 2 - 1, HUGE)))
        for far in ((2, 1), (HUGE * 2 + 1, HUGE), (3, 1), (HUGE, 1)):
            self.shown(told, far, None)

    def test_without_an_end(self):
        told = Side((9, 1), (1, 2), (-3, 1), None)
        self.shown(told, (HUGE, 1), pair(Fraction(1, 2) - 3 * HUGE))
        self.shown(Side((9, 1), (1, 2), NIL, None), (HUGE, 7), (1, 2))

    def test_by_the_fields_as_they_stand(self):
        told = side(FOLD, [(-3, 1)], [ONE])
        self.shown(told, (1, 1), (2, 1))
        told.beyond = (10, 1)
        self.shown(told, (1, 1), (9, 1))
        told.slope = (1, 2)
        self.shown(told, (1, 1), (21, 2))
        self.shown(told, (3, 1), None)
        told.reach = (4, 1)
        self.shown(told, (3, 1), (23, 2))
        told.reach = (1, 2)
        self.shown(told, (1, 1), None)
        told.reach = None
        self.shown(told, (4, 1), (12, 1))
        told.value = (77, 1)
        self.shown(told, (4, 1), (12, 1))

    def test_it_is_the_worth(self):
        chance = random.Random(23)
        for turn in range(150):
            inputs = chance.randint(1, 3)
            program = bent_program(chance, inputs)
            places, ways = some_places(chance, inputs), some_places(chance, inputs)
            told = side(program, places, ways)
            reach = Fraction(8) if told.reach is None else frac(told.reach)
            for part in (Fraction(1, 1000), Fraction(1, 3), Fraction(1, 2), Fraction(999, 1000)):
                there = [frac(place) + reach * part * frac(way) for place, way in zip(places, ways)]
                self.shown(told, pair(reach * part), pair(worth_of(program, there)))
            if told.reach is not None:
                self.shown(told, told.reach, None)

    def test_the_fields(self):
        self.assertEqual(fields(Side(ONE, (2, 1), (3, 1), (4, 1))), (ONE, (2, 1), (3, 1), (4, 1)))
        self.assertIn("shows", vars(Side))


class TestRefusals(unittest.TestCase):
    def refused(self, error, *parts):
        with self.assertRaises(error):
            side(*parts)

    def test_no_program(self):
        for bad in BAD_PROGRAMS:
            self.refused(BadProgram, bad, [ONE], [ONE])
            self.refused(BadProgram, bad, None, None)

    def test_no_places(self):
        for bad in NOT_NUMBER_LISTS + [[], [ONE, ONE]] + [[number] for number in NOT_NUMBERS]:
            self.refused(BadPlaces, (1, [IN]), bad, [ONE])
            self.refused(BadPlaces, (1, [IN]), bad, None)
        self.refused(BadPlaces, (3, [IN]), [ONE, ONE, (2, 2)], [ONE])

    def test_no_ways(self):
        for bad in NOT_NUMBER_LISTS + [[], [ONE, ONE]] + [[number] for number in NOT_NUMBERS]:
            self.refused(BadWays, (1, [IN]), [ONE], bad)
        for inputs in (1, 2, 3):
            for many in range(6):
                if many != inputs:
                    self.refused(BadWays, (inputs, [IN]), [ONE] * inputs, [ONE] * many)
        for bad in NOT_NUMBERS:
            self.refused(BadWays, (3, [IN]), [ONE] * 3, [ONE, ONE, bad])


class TestNothingKept(unittest.TestCase):
    def test_nothing_handed_in_is_changed(self):
        program, places, ways = (1, copy.deepcopy(FOLD[1])), [(4, 3)], [(1, 2)]
        side(program, places, ways)
        self.assertEqual((program, places, ways), (FOLD, [(4, 3)], [(1, 2)]))

    def test_what_is_told_is_new(self):
        place, way, number = tuple([4, 3]), tuple([1, 2]), tuple([7, 3])
        told = side((1, [IN]), [place], [way])
        self.assertIsNot(told.value, place)
        self.assertIsNot(told.beyond, place)
        self.assertIsNot(told.slope, way)
        self.assertIsNot(side((1, [("is", number)]), [place], [way]).beyond, number)
        first = side((1, [IN]), [place], [way])
        first.value = first.reach = None
        self.assertEqual(fields(side((1, [IN]), [place], [way])), (place, place, way, None))


if __name__ == "__main__":
    unittest.main()

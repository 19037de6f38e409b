"""bendwright/running.py: promises [1] and [5]."""

import copy
import random
import unittest
from fractions import Fraction

from bendwright.errors import BadPlaces, BadProgram
from bendwright.running import worth, worths
from tests.reckoning import frac, pair, reckoned, some_program
from tests.wrong import NOT_NUMBERS, NOT_WHOLE

IN = ("in", 0)
HUGE = 10 ** 4500

SPOTS = [
    (0, 1), (1, 1), (-1, 1), (1, 2), (-1, 2), (1, 1000), (-1, 1000), (7, 3), (-7, 3), (10 ** 20, 1),
    (-(10 ** 20), 3), (1, HUGE), (-1, HUGE), (HUGE + 1, HUGE), (-HUGE, 1),
]


class Checked(unittest.TestCase):
    def same(self, program, places, wanted):
        told = worths(program, places)
        self.assertEqual(told, wanted)
        self.assertIs(type(told), list)
        for number in told + [worth(program, places)]:
            self.assertIs(type(number), tuple)
            self.assertEqual([type(part) for part in number], [int, int])
        self.assertEqual(worth(program, places), wanted[-1])


class TestEachStep(Checked):
    def test_is(self):
        self.same((1, [("is", (-7, 3))]), [(5, 1)], [(-7, 3)])
        self.same((2, [("is", (0, 1)), ("is", (HUGE, HUGE + 1))]), [(5, 1), (1, 2)], [(0, 1), (HUGE, HUGE + 1)])

    def test_in(self):
        steps = [("in", 2), ("in", 0), ("in", 1)]
        self.same((3, steps), [(1, 2), (-3, 1), (0, 1)], [(0, 1), (1, 2), (-3, 1)])

    def test_sum(self):
        steps = [("in", 0), ("in", 1), ("sum", 0, 1), ("sum", 1, 1)]
        self.same((2, steps), [(1, 2), (1, 6)], [(1, 2), (1, 6), (2, 3), (1, 3)])
        self.same((2, steps), [(1, 2), (-1, 2)], [(1, 2), (-1, 2), (0, 1), (-1, 1)])

    def test_by(self):
        steps = [IN, ("by", (-2, 3), 0), ("by", (0, 1), 1), ("by", (3, 1), 1)]
        self.same((1, steps), [(3, 4)], [(3, 4), (-1, 2), (0, 1), (-3, 2)])

    def test_least_and_most(self):
        steps = [("in", 0), ("in", 1), ("least", 0, 1), ("most", 0, 1), ("least", 1, 0), ("most", 1, 0)]
        low, high = (1, 3), (1, 2)
        self.same((2, steps), [low, high], [low, high, low, high, low, high])
        self.same((2, steps), [high, low], [high, low, low, high, low, high])
        self.same((2, steps), [low, low], [low] * 6)
        self.same((2, steps), [(-1, 2), (-1, 3)], [(-1, 2), (-1, 3), (-1, 2), (-1, 3), (-1, 2), (-1, 3)])

    def test_if(self):
        steps = [IN, ("is", (5, 1)), ("is", (9, 1)), ("if", 0, 1, 2)]
        for place, wanted in [
            ((0, 1), (5, 1)), ((-1, 1), (5, 1)), ((1, 1), (9, 1)), ((1, HUGE), (9, 1)), ((-1, HUGE), (5, 1)),
            ((HUGE, 1), (9, 1)), ((-HUGE, 1), (5, 1)),
        ]:
            self.same((1, steps), [place], [place, (5, 1), (9, 1), wanted])

    def test_turns(self):
        body = [IN, ("is", (1, 1)), ("by", (2, 1), 0), ("sum", 1, 2)]
        wanted = [(3, 1), (7, 1), (15, 1), (31, 1), (63, 1), (127, 1), (255, 1)]
        for many in range(7):
            self.same((1, [IN, ("turns", many, 0, body)]), [(3, 1)], [(3, 1), wanted[many]])

    def test_turns_begin_at_their_step(self):
        steps = [IN, ("is", (10, 1)), ("turns", 2, 1, [IN, ("by", (1, 2), 0)]), ("sum", 0, 2)]
        self.same((1, steps), [(1, 2)], [(1, 2), (10, 1), (5, 2), (3, 1)])

    def test_turns_of_a_later_input(self):
        steps = [("in", 1), ("turns", 1, 0, [IN, ("by", (-1, 1), 0)])]
        self.same((2, steps), [(7, 1), (2, 1)], [(2, 1), (-2, 1)])

    def test_a_body_has_the_worth_of_its_last_step(self):
        steps = [IN, ("turns", 3, 0, [IN, ("by", (4, 1), 0), ("is", (1, 3))])]
        self.same((1, steps), [(7, 1)], [(7, 1), (1, 3)])

    def test_choices_in_a_body(self):
        fold = [IN, ("is", (1, 1)), ("is", (-1, 1)), ("sum", 0, 2), ("if", 3, 1, 3)]
        for place, wanted in [((1, 1), (1, 1)), ((3, 1), (1, 1)), ((4, 1), (2, 1)), ((7, 2), (3, 2)), ((0, 1), (1, 1))]:
            told = worths((1, [IN, ("turns", 2, 0, fold)]), [place])
            self.assertEqual(told, [place, wanted])
        body = [IN, ("is", (2, 1)), ("most", 0, 1), ("by", (1, 2), 2), ("least", 3, 1)]
        self.same((1, [IN, ("turns", 2, 0, body)]), [(12, 1)], [(12, 1), (1, 1)])
        self.same((1, [IN, ("turns", 1, 0, body)]), [(3, 1)], [(3, 1), (3, 2)])

    def test_the_program_has_the_worth_of_its_last_step(self):
        self.assertEqual(worth((1, [IN, ("is", (4, 1)), ("by", (1, 2), 0)]), [(9, 1)]), (9, 2))


class TestMany(Checked):
    def test_all_spots_as_fractions(self):
        steps = [
            IN, ("in", 1), ("least", 0, 1), ("most", 0, 1), ("if", 0, 2, 3), ("sum", 2, 4), ("by", (-5, 6), 5),
            ("turns", 2, 6, [IN, ("is", (1, 3)), ("if", 0, 1, 0), ("sum", 2, 1)]),
        ]
        for one in SPOTS:
            for other in SPOTS:
                wanted = reckoned(steps, [frac(one), frac(other)])
                self.same((2, steps), [one, other], [pair(number) for number in wanted])

    def test_programs_drawn_at_random(self):
        chance = random.Random(5)
        for turn in range(1200):
            inputs = chance.randint(1, 3)
            program = some_program(chance, inputs, chance.randint(1, 14), 1)
            for spot in range(3):
                places = [pair(Fraction(chance.randint(-6, 6), chance.randint(1, 4))) for k in range(inputs)]
                wanted = reckoned(program[1], [frac(place) for place in places])
                self.same(program, places, [pair(number) for number in wanted])

    def test_thousands_of_figures(self):
        steps = [IN, ("by", (HUGE + 1, HUGE), 0), ("is", (-1, HUGE)), ("sum", 1, 2)]
        self.same((1, steps), [(1, 1)], [(1, 1), (HUGE + 1, HUGE), (-1, HUGE), (1, 1)])


class TestRefusals(unittest.TestCase):
    def refused(self, error, program, places):
        for act in (worths, worth):
            with self.assertRaises(error):
                act(program, places)

    def test_no_list(self):
        program = (1, [IN])
        for bad in [value for value in NOT_WHOLE if not isinstance(value, list)] + [0, 1, (1, 2), ((1, 2),)]:
            self.refused(BadPlaces, program, bad)
        self.refused(BadPlaces, program, {0: (1, 2)})
        self.refused(BadPlaces, (2, [IN]), ((1, 1), (1, 1)))

    def test_too_few_or_too_many(self):
        for inputs in (1, 2, 3):
            for many in range(6):
                if many != inputs:
                    self.refused(BadPlaces, (inputs, [("is", (1, 1))]), [(1, 1)] * many)

    def test_what_is_no_number(self):
        for bad in NOT_NUMBERS:
            self.refused(BadPlaces, (1, [IN]), [bad])
            self.refused(BadPlaces, (1, [("is", (1, 1))]), [bad])
            self.refused(BadPlaces, (2, [IN]), [bad, (1, 1)])
            self.refused(BadPlaces, (2, [IN]), [(1, 1), bad])
            self.refused(BadPlaces, (3, [IN]), [(1, 1), (1, 1), bad])

    def test_no_program(self):
        for bad in NOT_WHOLE + [
            (0, [IN]), (4, [IN]), (1, []), (1, [("in", 1)]), (1, [("is", (2, 2))]), (1, [("sum", 0, 0)]),
            (1, [IN] * 121), (1, [IN] + [("most", 0, 0)] * 9), (1, [IN, ("turns", 6, 0, [IN] * 20)]),
            (1, [IN, ("turns", 7, 0, [IN])]), (1, [IN, ("turns", 1, 0, [IN, ("turns", 1, 0, [IN])])]),
        ]:
            self.refused(BadProgram, bad, [(1, 1)])

    def test_the_program_is_refused_first(self):
        for bad in (None, (1, []), (1, [("in", 1)]), (1, [IN] + [("most", 0, 0)] * 9)):
            for places in (None, [], [(2, 2)], [(1, 1)] * 9, "places"):
                self.refused(BadProgram, bad, places)


class TestNothingKept(unittest.TestCase):
    STEPS = [IN, ("is", (1, 2)), ("sum", 0, 1), ("turns", 2, 2, [IN, ("by", (1, 3), 0)])]

    def test_nothing_handed_in_is_changed(self):
        program, places = (1, copy.deepcopy(self.STEPS)), [(4, 3)]
        worths(program, places)
        worth(program, places)
        self.assertEqual(program, (1, self.STEPS))
        self.assertEqual(places, [(4, 3)])

    def test_each_list_is_the_askers_own(self):
        program, places = (1, [IN]), [(4, 3)]
        first = worths(program, places)
        self.assertIsNot(first, places)
        first.append("more")
        first[0] = None
        self.assertEqual(worths(program, places), [(4, 3)])
        self.assertEqual((program, places), ((1, [IN]), [(4, 3)]))

    def test_what_is_told_stays_when_what_was_handed_in_changes(self):
        steps, places = copy.deepcopy(self.STEPS), [(4, 3)]
        told = worths((1, steps), places)
        wanted = list(told)
        steps.clear()
        places[0] = (0, 1)
        self.assertEqual(told, wanted)

    def test_the_numbers_told_are_new(self):
        number, place = tuple([7, 3]), tuple([4, 3])
        told = worths((1, [IN, ("is", number)]), [place])
        self.assertIsNot(told[0], place)
        self.assertIsNot(told[1], number)


if __name__ == "__main__":
    unittest.main()

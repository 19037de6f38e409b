"""bendwright/tuning.py: promises [1], [24] and carried of [7]."""

import copy
import random
import unittest
from fractions import Fraction

from bendwright.errors import BadNumber, BadPlaces, BadProgram, BadStep, BadStretch, BadWays
from bendwright.finding import spans
from bendwright.pictures import picture
from bendwright.programs import size
from bendwright.sides import side
from bendwright.tuning import carried, tuned
from bendwright.turning import fixed
from tests.building import X, Y, built, by, size_of
from tests.reckoning import bent_program, frac, pair, reckoned, some_places, some_program, worth_of
from tests.wrong import BAD_PROGRAMS, NOT_NUMBER_LISTS, NOT_NUMBERS, NOT_WHOLE

HUGE = 10 ** 3000
NIL, ONE, MINUS = (0, 1), (1, 1), (-1, 1)
FARS = [Fraction(far) for far in (0, 1, -1, Fraction(1, 3), Fraction(-7, 2), 100, -100)]
FOLD = built(1, size_of(X))
# All kinds of steps, of three inputs.
EACH = [
    X, Y, ("in", 2), ("is", (3, 2)), ("sum", 0, 1), ("by", (-2, 3), 2), ("least", 4, 5), ("most", 4, 3),
    ("turns", 2, 7, [X, ("is", ONE), ("if", 0, 1, 0), ("sum", 0, 2)]), ("if", 6, 8, 5), ("sum", 9, 8),
]


def plain(many, inputs=1):
    """So many steps that need each other, all inputs among them."""
    steps = [("in", at) for at in range(inputs)][:many]
    while len(steps) < many:
        steps.append(("sum", len(steps) - 1, 0))
    return steps


class TestCarried(unittest.TestCase):
    """[7]."""

    def carry(self, program, places, ways):
        told = carried(program, places, ways)
        self.assertIs(type(told), tuple)
        self.assertIs(type(told[1]), list)
        self.assertEqual(told[0], 1)
        run, choices = size(told)
        self.assertLessEqual(run, 120)
        self.assertLessEqual(choices, size(program)[1])
        for far in FARS:
            there = [frac(place) + far * frac(way) for place, way in zip(places, ways)]
            self.assertEqual(worth_of(told, [far]), worth_of(program, there))
        return told

    def test_each_step(self):
        for places in ([NIL, NIL, NIL], [ONE, (-3, 2), (7, 1)], [MINUS, MINUS, ONE]):
            for ways in ([ONE, ONE, ONE], [NIL, (-1, 2), (3, 1)], [MINUS, NIL, NIL], [NIL, NIL, NIL]):
                for many in range(1, len(EACH) + 1):
                    self.carry((3, EACH[:many]), places, ways)

    def test_one_input(self):
        for way in (ONE, MINUS, (2, 3), NIL):
            for place in (NIL, (5, 1), (-1, 2)):
                self.carry(FOLD, [place], [way])
                self.carry((1, [X]), [place], [way])
                self.carry((1, [X, ("turns", 3, 0, FOLD[1])]), [place], [way])

    def test_two_inputs(self):
        program = built(2, ("most", ("sum", X, by(-2, Y)), ("if", X, Y, ("is", (4, 1)))))
        for ways in ([ONE, ONE], [MINUS, (2, 1)], [NIL, ONE], [ONE, NIL], [NIL, NIL]):
            self.carry(program, [(1, 2), (-3, 1)], ways)
            self.carry((2, [Y]), [(1, 2), (-3, 1)], ways)
            self.carry((2, [Y, X]), [(1, 2), (-3, 1)], ways)

    def test_bodies_keep_their_own_input(self):
        program = (2, [Y, ("turns", 2, 0, [X, ("is", ONE), ("sum", 0, 1)])])
        self.carry(program, [(1, 2), (-3, 1)], [(2, 1), (3, 1)])
        program = (2, [("is", (5, 1)), ("turns", 2, 0, [X, X, ("sum", 0, 1)])])
        self.assertEqual(worth_of(self.carry(program, [ONE, ONE], [ONE, ONE]), [3]), 20)

    def test_no_input_is_there(self):
        self.assertEqual(worth_of(self.carry((3, [("is", (7, 2))]), [ONE] * 3, [ONE] * 3), [9]), Fraction(7, 2))

    def test_the_bound(self):
        for inputs in (1, 2, 3):
            for steps in (
                plain(100, inputs), [X] * 99 + [("in", inputs - 1)], [X, ("turns", 2, 0, plain(49))],
                [X] * 3 + [("turns", 6, 2, plain(16))], [X] * 92 + [("most", 0, at) for at in range(8)],
                plain(93, inputs) + [("turns", 6, 9, [X])],
            ):
                self.assertEqual(size((inputs, steps))[0], 100)
                places, ways = [(1, 2)] * inputs, [(1, 3)] * inputs
                self.carry((inputs, steps), places, ways)
                for more in range(1, 21):
                    with self.assertRaises(BadProgram):
                        carried((inputs, steps + [("sum", 0, 0)] * more), places, ways)
        with self.assertRaises(BadProgram):
            carried((1, [X, ("turns", 3, 0, plain(33))]), [ONE], [ONE])

    def test_eight_choices(self):
        for inputs in (1, 2, 3):
            steps = plain(20, inputs) + [("least", at, at + 1) for at in range(8)]
            self.assertEqual(size(self.carry((inputs, steps), [ONE] * inputs, [MINUS] * inputs))[1], 8)

    def test_as_fixed(self):
        chance = random.Random(91)
        for turn in range(60):
            inputs = chance.randint(1, 3)
            program, places = bent_program(chance, inputs), some_places(chance, inputs)
            at = chance.randrange(inputs)
            if size(program)[0] <= 100:
                ways = [ONE if k == at else NIL for k in range(inputs)]
                places[at] = NIL
                one, other = carried(program, places, ways), fixed(program, places, at)
                for far in FARS:
                    self.assertEqual(worth_of(one, [far]), worth_of(other, [far]))

    def test_its_side_is_the_side(self):
        chance = random.Random(92)
        for turn in range(100):
            inputs = chance.randint(1, 3)
            program, places = bent_program(chance, inputs), some_places(chance, inputs)
            ways = some_places(chance, inputs)
            if size(program)[0] <= 100:
                told = side(carried(program, places, ways), [NIL], [ONE])
                self.assertEqual(vars(told), vars(side(program, places, ways)))

    def test_at_random(self):
        chance = random.Random(93)
        for turn in range(200):
            inputs = chance.randint(1, 3)
            program = some_program(chance, inputs, chance.randint(1, 14), 1)
            if size(program)[0] <= 100:
                self.carry(program, some_places(chance, inputs), some_places(chance, inputs))

    def test_numbers_of_any_size(self):
        told = carried((2, [Y]), [ONE, (1, HUGE)], [ONE, (HUGE, HUGE + 1)])
        self.assertEqual(worth_of(told, [Fraction(HUGE + 1)]), HUGE + Fraction(1, HUGE))


class TestTuned(unittest.TestCase):
    """[24]."""

    def tune(self, program, places, at, low, high, number):
        """The spans, each number of several being in one of them just if it gives the worth."""
        told = tuned(program, places, at, low, high, number)
        self.assertIs(type(told), list)
        spots = {frac(low), frac(high)}
        for span in told:
            self.assertIs(type(span), tuple)
            self.assertEqual([type(part) for part in span], [tuple, tuple, bool, bool])
            for end in map(frac, span[:2]):
                self.assertTrue(frac(low) <= end <= frac(high))
                spots.update(end + way * Fraction(1, 10 ** 6) for way in (-1, 0, 1))
        wide = frac(high) - frac(low)
        spots.update(frac(low) + wide * part / 12 for part in range(13))
        spots = sorted(spot for spot in spots if frac(low) <= spot <= frac(high))
        spots += [(one + other) / 2 for one, other in zip(spots, spots[1:])]
        where = [frac(place) for place in places]
        for spot in spots:
            inside = [
                frac(one) < spot < frac(other) or first and spot == frac(one) or last and spot == frac(other)
                for one, other, first, last in told
            ]
            given = reckoned(program[1], where, {at: spot})[-1]
            self.assertEqual(sum(inside), given == frac(number), (program, at, spot))
        return told

    def test_each_step_of_a_fold(self):
        for at, wanted in enumerate((
            [((-8, 1), (-8, 1), True, True), ((2, 1), (2, 1), True, True)], [((8, 1), (8, 1), True, True)],
            [((2, 1), (2, 1), True, True)],
        )):
            self.assertEqual(self.tune(FOLD, [(3, 1)], at, (-9, 1), (9, 1), (5, 1)), wanted)

    def test_the_last_step(self):
        self.assertEqual(self.tune((1, [X]), [(3, 1)], 0, (-9, 1), (9, 1), (5, 1)), [((2, 1), (2, 1), True, True)])
        self.assertEqual(self.tune((1, [("is", ONE)]), [ONE], 0, NIL, ONE, ONE), [(NIL, NIL, True, True)])
        self.assertEqual(self.tune((1, [("is", ONE)]), [ONE], 0, NIL, ONE, (2, 1)), [(ONE, ONE, True, True)])
        self.assertEqual(self.tune((1, [("is", ONE)]), [ONE], 0, NIL, ONE, (3, 1)), [])

    def test_level_stretches(self):
        program = (1, [X, ("is", (4, 1)), ("least", 0, 1)])
        self.assertEqual(self.tune(program, [ONE], 0, (-9, 1), (9, 1), (4, 1)), [((3, 1), (9, 1), True, True)])
        self.assertEqual(self.tune(program, [ONE], 1, (-9, 1), (9, 1), ONE), [((-3, 1), (9, 1), True, True)])
        self.assertEqual(self.tune(program, [ONE], 1, (-9, 1), (9, 1), (-1, 2)), [((-9, 2), (-9, 2), True, True)])
        jumping = (1, [X, ("is", (4, 1)), ("is", (5, 1)), ("if", 0, 1, 2)])
        self.assertEqual(self.tune(jumping, [ONE], 0, (-9, 1), (9, 1), (4, 1)), [((-9, 1), MINUS, True, True)])
        self.assertEqual(self.tune(jumping, [ONE], 0, (-9, 1), (9, 1), (5, 1)), [(MINUS, (9, 1), False, True)])
        self.assertEqual(self.tune(jumping, [ONE], 1, (-9, 1), (9, 1), (5, 1)), [((-9, 1), (9, 1), True, True)])
        self.assertEqual(self.tune(jumping, [ONE], 1, (-9, 1), (9, 1), (4, 1)), [])

    def test_a_step_that_is_not_needed(self):
        program = (1, [X, ("is", ONE), ("by", (2, 1), 0)])
        self.assertEqual(self.tune(program, [(3, 1)], 1, NIL, ONE, (6, 1)), [(NIL, ONE, True, True)])
        self.assertEqual(self.tune(program, [(3, 1)], 1, NIL, ONE, ONE), [])

    def test_a_step_needed_several_times(self):
        program = (1, [X, ("sum", 0, 0), ("sum", 1, 0)])
        self.assertEqual(self.tune(program, [(1, 1)], 0, (-9, 1), (9, 1), (9, 1)), [((2, 1), (2, 1), True, True)])

    def test_steps_with_turns(self):
        program = (2, [Y, ("turns", 2, 0, FOLD[1]), ("sum", 1, 0)])
        for at in range(3):
            self.tune(program, [ONE, (-3, 1)], at, (-9, 1), (9, 1), NIL)

    def test_two_inputs(self):
        program = built(2, ("most", ("sum", X, by(-2, Y)), ("if", X, Y, ("is", (4, 1)))))
        for at in range(len(program[1])):
            for places in ([NIL, NIL], [ONE, (-3, 2)], [MINUS, (5, 1)]):
                for number in (NIL, (4, 1), (5, 2)):
                    self.tune(program, places, at, (-7, 1), (8, 1), number)

    def test_at_random(self):
        chance = random.Random(94)
        found = 0
        for turn in range(300):
            inputs = chance.randint(1, 2)
            program = bent_program(chance, inputs) if turn % 2 else some_program(chance, inputs, 9, 1)
            if size(program)[0] > 118:
                continue
            places, at = some_places(chance, inputs), chance.randrange(len(program[1]))
            if turn % 3 == 0:
                at = len(program[1]) - 1
            given = Fraction(chance.randint(-8, 8), 2)
            number = pair(reckoned(program[1], [frac(place) for place in places], {at: given})[-1])
            told = self.tune(program, places, at, (-4, 1), (4, 1), number)
            self.assertTrue(any(frac(one) <= given <= frac(other) for one, other, first, last in told))
            found += len(told)
            self.tune(program, places, at, (-4, 1), (4, 1), pair(chance.randint(-4, 4)))
        self.assertGreater(found, 250)

    def test_the_bound(self):
        for inputs in (1, 2):
            steps = plain(118, inputs)
            for at in (0, 60, 117):
                self.tune((inputs, steps), [NIL] * inputs, at, (-1, 1), ONE, NIL)
                with self.assertRaises(BadProgram):
                    tuned((inputs, steps + [X]), [NIL] * inputs, at, (-1, 1), ONE, NIL)

    def test_as_the_spans_of_a_picture(self):
        # Added to its only input, at 0, it is the program itself.
        chance = random.Random(95)
        for turn in range(60):
            program = bent_program(chance, 1)
            made = picture(program, (-3, 1), (3, 1))
            number = chance.choice(made.worths)
            if size(program)[0] <= 118:
                self.assertEqual(tuned(program, [NIL], 0, (-3, 1), (3, 1), number), spans(made, number))

    def test_numbers_of_any_size(self):
        told = self.tune((1, [X, ("by", (1, HUGE), 0)]), [(HUGE, 1)], 1, NIL, (HUGE, 1), (HUGE, 1))
        self.assertEqual(told, [((HUGE - 1, 1), (HUGE - 1, 1), True, True)])


class TestRefusals(unittest.TestCase):
    def refused(self, error, act, *parts):
        with self.assertRaises(error):
            act(*parts)

    def test_no_program(self):
        for bad in BAD_PROGRAMS:
            self.refused(BadProgram, carried, bad, [NIL], [ONE])
            self.refused(BadProgram, carried, bad, None, None)
            self.refused(BadProgram, tuned, bad, [NIL], 0, NIL, ONE, NIL)
            self.refused(BadProgram, tuned, bad, None, None, None, None, None)

    def test_carried_in_turn(self):
        great = (1, plain(101))
        for bad in NOT_NUMBER_LISTS + [[], [NIL, NIL], [(2, 2)], [NIL] * 3]:
            self.refused(BadPlaces, carried, FOLD, bad, [ONE])
            self.refused(BadPlaces, carried, FOLD, bad, bad)
            self.refused(BadPlaces, carried, great, bad, [ONE])
            self.refused(BadWays, carried, FOLD, [NIL], bad)
            self.refused(BadWays, carried, great, [NIL], bad)
        for bad in NOT_NUMBERS:
            self.refused(BadPlaces, carried, (2, [X]), [NIL, bad], [bad, NIL])
            self.refused(BadWays, carried, (2, [X]), [NIL, NIL], [bad, NIL])
            self.refused(BadWays, carried, (3, [X]), [NIL] * 3, [NIL, NIL, bad])
        self.refused(BadProgram, carried, great, [NIL], [ONE])

    def test_tuned_in_turn(self):
        rest = (ONE, NIL, None)
        for bad in NOT_NUMBER_LISTS + [[], [NIL, NIL], [(2, 2)]]:
            self.refused(BadPlaces, tuned, FOLD, bad, 0, NIL, ONE, NIL)
            self.refused(BadPlaces, tuned, FOLD, bad, None, *rest)
        for bad in NOT_NUMBERS:
            self.refused(BadPlaces, tuned, (2, [X]), [NIL, bad], 0, NIL, ONE, NIL)
        for bad in NOT_WHOLE + [-1, 3, HUGE, -HUGE, NIL]:
            self.refused(BadStep, tuned, FOLD, [NIL], bad, NIL, ONE, NIL)
            self.refused(BadStep, tuned, FOLD, [NIL], bad, *rest)
            self.refused(BadStep, tuned, (3, [X] * 3), [NIL] * 3, bad, *rest)
        for many in (119, 120):
            self.refused(BadStep, tuned, (1, plain(many)), [NIL], many, *rest)
            self.refused(BadProgram, tuned, (1, plain(many)), [NIL], 0, *rest)
            self.refused(BadProgram, tuned, (1, plain(many)), [NIL], 0, NIL, ONE, NIL)
        self.refused(BadProgram, tuned, (3, [X]), [NIL] * 3, 0, NIL, ONE, NIL)
        self.refused(BadProgram, tuned, (3, [X]), [NIL] * 3, 0, *rest)
        self.refused(BadPlaces, tuned, (3, [X]), [NIL] * 2, 0, *rest)

    def test_no_stretch_and_no_worth(self):
        for bad in NOT_NUMBERS:
            self.refused(BadStretch, tuned, FOLD, [NIL], 0, bad, ONE, NIL)
            self.refused(BadStretch, tuned, FOLD, [NIL], 0, NIL, bad, NIL)
            self.refused(BadStretch, tuned, FOLD, [NIL], 0, NIL, bad, bad)
            self.refused(BadNumber, tuned, FOLD, [NIL], 0, NIL, ONE, bad)
        for low, high in ((NIL, NIL), (ONE, NIL), ((1, 2), (1, 3)), (pair(1 + Fraction(1, HUGE)), ONE)):
            self.refused(BadStretch, tuned, FOLD, [NIL], 0, low, high, NIL)
            self.refused(BadStretch, tuned, FOLD, [NIL], 0, low, high, None)


class TestNothingKept(unittest.TestCase):
    def test_nothing_handed_in_is_changed(self):
        program, places, ways = (3, copy.deepcopy(EACH)), [NIL, ONE, MINUS], [ONE, NIL, ONE]
        carried(program, places, ways)
        self.assertEqual((program, places, ways), ((3, EACH), [NIL, ONE, MINUS], [ONE, NIL, ONE]))
        program, places = (1, copy.deepcopy(FOLD[1])), [NIL]
        tuned(program, places, 0, NIL, ONE, ONE)
        self.assertEqual((program, places), (FOLD, [NIL]))

    def test_what_is_told_is_new(self):
        program = (3, copy.deepcopy(EACH))
        places, ways = [tuple([7, 2]), tuple([5, 2]), tuple([3, 2])], [tuple([7, 3]), tuple([5, 3]), tuple([4, 3])]
        first, second = [carried(program, places, ways) for k in range(2)]
        wanted = copy.deepcopy(second)
        held = places + ways + [part for step in program[1] for part in step if isinstance(part, (tuple, list))]
        for part in [part for step in first[1] for part in step if isinstance(part, (tuple, list))]:
            self.assertFalse(any(part is other for other in held))
        for steps in (program[1], first[1]):
            for step in steps:
                if step[0] == "turns":
                    step[3].clear()
            steps.clear()
        self.assertEqual(second, wanted)

    def test_spans_told_are_the_askers_own(self):
        low, high = tuple([-9, 1]), tuple([9, 1])
        first, second = [tuned(FOLD, [(3, 1)], 0, low, high, (6, 1)) for k in range(2)]
        self.assertEqual(first[0][0], low)
        self.assertFalse(any(number is other for span in first for number in span[:2] for other in (low, high)))
        first.clear()
        self.assertEqual(len(second), 2)


if __name__ == "__main__":
    unittest.main()

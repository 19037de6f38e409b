"""bendwright/turning.py: promises [1], [6] and [7], but for carried."""

import copy
import random
import unittest
from fractions import Fraction

from bendwright.errors import BadPlaces, BadProgram, BadStep, Others
from bendwright.programs import size
from bendwright.turning import behind, fixed, shortened, stirred, unrolled
from tests.reckoning import bent_program, frac, pair, reckoned, some_program, worth_of
from tests.wrong import BAD_PROGRAMS, NOT_NUMBER_LISTS, NOT_NUMBERS, NOT_WHOLE

IN = ("in", 0)
HUGE = 10 ** 4500
SPOTS = [Fraction(above, below) for above in (*range(-7, 8), 10 ** 12, -(10 ** 12)) for below in (1, 2, 3)]
EACH = [
    ("is", (3, 2)), IN, ("sum", 0, 1), ("by", (-1, 2), 2), ("least", 0, 3), ("most", 4, 1), ("if", 5, 4, 0),
    ("turns", 2, 6, [IN, ("is", (1, 1)), ("if", 0, 1, 0), ("by", (1, 2), 2)]), ("sum", 7, 1),
]


def plain(many):
    """So many steps without a choice."""
    return [IN] + [("by", (-1, 2), at) for at in range(many - 1)]


def chosen(many):
    """One step, and so many choices."""
    return [IN] + [("if", at, 0, at) for at in range(many)]


def places_for(inputs, chance):
    """Places of as many inputs, some of them at random."""
    return [[chance.choice(SPOTS) for k in range(inputs)] for turn in range(12)]


class Checked(unittest.TestCase):
    def formed(self, program):
        """It is a program, new as one would make it by hand."""
        size(program)
        self.assertIs(type(program), tuple)
        self.assertIs(type(program[1]), list)
        for step in program[1]:
            self.assertIs(type(step), tuple)

    def unturned(self, program):
        told = unrolled(program)
        self.formed(told)
        self.assertEqual(told[0], program[0])
        self.assertNotIn("turns", [step[0] for step in told[1]])
        self.assertLessEqual(size(told)[0], size(program)[0])
        self.assertLessEqual(size(told)[1], size(program)[1])
        for places in places_for(program[0], random.Random(3)):
            self.assertEqual(worth_of(told, places), worth_of(program, places))
        return told


class TestUnrolled(Checked):
    def test_without_turns_it_is_the_same(self):
        program = (2, [IN, ("in", 1), ("sum", 0, 1), ("is", (1, 3)), ("if", 2, 3, 0)])
        self.assertEqual(unrolled(program), program)

    def test_each_number_of_turns(self):
        body = [IN, ("is", (1, 1)), ("by", (2, 1), 0), ("sum", 1, 2)]
        for many in range(7):
            program = (1, [IN, ("turns", many, 0, body)])
            self.unturned(program)
            self.unturned((1, program[1] + [("sum", 0, 1)]))

    def test_turns_of_0_times_alone(self):
        self.assertEqual(worth_of(self.unturned((1, [IN, ("is", (9, 1)), ("turns", 0, 0, [("is", (4, 1))])])), [5]), 5)
        self.unturned((1, [IN, ("turns", 0, 0, [IN] * 120)]))
        self.unturned((1, [IN, ("turns", 0, 0, chosen(100)), ("turns", 0, 1, [IN])]))
        self.unturned((1, [IN, ("by", (2, 1), 0), ("turns", 0, 0, [IN]), ("sum", 2, 1)]))

    def test_the_last_step_is_what_a_body_begins_with(self):
        for many in range(7):
            for body in ([IN], [IN, IN], [IN, ("by", (5, 1), 0), IN]):
                self.unturned((1, [IN, ("by", (3, 1), 0), ("is", (7, 1)), ("turns", many, 1, body)]))

    def test_several_turns_of_several_inputs(self):
        body = [IN, ("is", (-1, 2)), ("most", 0, 1), ("sum", 1, 2)]
        steps = [
            ("in", 2), ("turns", 2, 0, body), ("in", 1), ("turns", 3, 2, plain(3)), IN, ("turns", 1, 4, body),
            ("least", 1, 3), ("if", 5, 6, 3), ("turns", 2, 7, body), ("sum", 8, 1),
        ]
        self.unturned((3, steps))
        for many in range(1, len(steps)):
            self.unturned((3, steps[:many]))

    def test_a_body_whose_last_step_is_not_its_longest_chain(self):
        for body in (
            [IN, ("by", (2, 1), 0), ("by", (2, 1), 1), ("sum", 2, 2), ("sum", 0, 0)],
            [IN, ("by", (2, 1), 0), ("most", 0, 1), ("is", (1, 3))],
            [("is", (1, 3)), IN, ("by", (2, 1), 1), ("least", 1, 2), ("sum", 1, 0)],
        ):
            for many in (1, 2, 6):
                program = (1, [IN, ("turns", many, 0, body), ("sum", 1, 0)])
                if size((1, body))[1] * many <= 8:
                    self.unturned(program)
                    self.unturned((1, program[1][:2]))

    def test_120_steps_run(self):
        for program in (
            (1, [IN, ("turns", 1, 0, plain(118))]), (1, [IN, ("turns", 6, 0, plain(19)), IN, IN, IN, ("sum", 1, 0)]),
            (1, [IN, ("turns", 2, 0, plain(58)), ("is", (1, 1)), ("sum", 1, 2)]), (1, plain(120)),
            (1, [IN, ("turns", 2, 0, [("is", (1, 1))] * 59)]), (1, [IN, ("turns", 4, 0, chosen(2)), ("sum", 0, 1)]),
        ):
            self.unturned(program)
        self.assertEqual(size((1, [IN, ("turns", 6, 0, plain(19)), IN, IN, IN, ("sum", 1, 0)]))[0], 120)

    def test_at_random(self):
        chance = random.Random(8)
        for turn in range(250):
            inputs = chance.randint(1, 3)
            self.unturned(some_program(chance, inputs, chance.randint(1, 12), 5))
            self.unturned(bent_program(chance, inputs))


def formula(steps, at):
    """A step written out with all that it needs, for short programs."""
    step = steps[at]
    if step[0] in ("is", "in"):
        return repr(step)
    if step[0] == "by":
        return repr(step[:2]) + formula(steps, step[2])
    if step[0] == "turns":
        return repr((step[0], step[1], step[3])) + formula(steps, step[2])
    return step[0] + "(" + ",".join(formula(steps, ahead) for ahead in step[1:]) + ")"


def needs(step):
    if step[0] in ("is", "in"):
        return []
    return [step[2]] if step[0] in ("by", "turns") else list(step[1:])


def wanted_formulas(steps):
    """The formulas of the needed steps, each once, in the turn of the steps."""
    needed = {len(steps) - 1}
    for at in reversed(range(len(steps))):
        if at in needed:
            needed.update(needs(steps[at]))
    found = []
    for at in sorted(needed):
        if formula(steps, at) not in found:
            found.append(formula(steps, at))
    return found


class TestShortened(Checked):
    def becomes(self, steps, wanted, inputs=1):
        told = shortened((inputs, steps))
        self.assertEqual(told, (inputs, wanted))
        self.formed(told)

    def test_a_needed_one_stays(self):
        self.becomes(EACH, EACH)
        self.becomes([("is", (1, 3))], [("is", (1, 3))])
        self.becomes([("in", 2)], [("in", 2)], 3)

    def test_what_is_not_needed_goes(self):
        self.becomes([IN, ("is", (9, 1)), ("by", (2, 1), 0)], [IN, ("by", (2, 1), 0)])
        self.becomes([IN, ("by", (2, 1), 0), ("sum", 1, 1), ("is", (4, 1))], [("is", (4, 1))])
        self.becomes(
            [("is", (7, 1)), IN, ("sum", 0, 0), ("by", (2, 1), 1), ("most", 2, 3), ("least", 3, 1), ("sum", 5, 5)],
            [IN, ("by", (2, 1), 0), ("least", 1, 0), ("sum", 2, 2)],
        )

    def test_each_kind_needs_its_steps(self):
        spare = [("is", (at, 1)) for at in range(4)]
        body = [IN, ("is", (1, 1)), ("is", (5, 1)), ("sum", 0, 1), ("sum", 0, 1)]
        for last, wanted in (
            (("sum", 1, 3), [spare[1], spare[3], ("sum", 0, 1)]),
            (("by", (0, 1), 2), [spare[2], ("by", (0, 1), 0)]),
            (("least", 3, 1), [spare[1], spare[3], ("least", 1, 0)]),
            (("most", 0, 2), [spare[0], spare[2], ("most", 0, 1)]),
            (("if", 3, 0, 0), [spare[0], spare[3], ("if", 1, 0, 0)]),
            (("if", 1, 2, 3), [spare[1], spare[2], spare[3], ("if", 0, 1, 2)]),
            (("if", 1, 1, 1), [spare[1], ("if", 0, 0, 0)]),
            (("turns", 3, 2, body), [spare[2], ("turns", 3, 0, body)]),
            (("turns", 0, 3, body), [spare[3], ("turns", 0, 0, body)]),
        ):
            self.becomes(spare + [last], wanted)

    def test_alike_ones_fall_away(self):
        self.becomes([IN, IN, ("sum", 0, 1)], [IN, ("sum", 0, 0)])
        self.becomes(
            [IN, ("is", (1, 2)), IN, ("is", (1, 2)), ("most", 2, 3), ("most", 0, 1), ("sum", 5, 4)],
            [IN, ("is", (1, 2)), ("most", 0, 1), ("sum", 2, 2)],
        )
        self.becomes([IN, ("in", 1), IN, ("if", 0, 1, 2)], [IN, ("in", 1), ("if", 0, 1, 0)], 2)

    def test_those_that_become_alike_fall_away(self):
        steps = [IN, IN, ("by", (2, 1), 0), ("by", (2, 1), 1), ("by", (3, 1), 2), ("by", (3, 1), 3), ("least", 4, 5)]
        self.becomes(steps, [IN, ("by", (2, 1), 0), ("by", (3, 1), 1), ("least", 2, 2)])

    def test_turns_that_become_alike_fall_away(self):
        body = [IN, IN, ("sum", 0, 1)]
        other = [IN, ("sum", 0, 0)]
        self.becomes(
            [IN, IN, ("turns", 2, 0, body), ("turns", 2, 1, list(body)), ("sum", 2, 3)],
            [IN, ("turns", 2, 0, body), ("sum", 1, 1)],
        )
        one = ("turns", 2, 0, body)
        for two in (("turns", 2, 0, other), ("turns", 1, 0, body)):
            self.becomes([IN, one, two, ("sum", 1, 2)], [IN, one, two, ("sum", 1, 2)])

    def test_unlike_ones_stay(self):
        steps = [IN, ("is", (1, 1)), ("sum", 0, 1), ("sum", 1, 0), ("most", 2, 3)]
        self.becomes(steps, steps)
        steps = [IN, ("by", (1, 1), 0), ("least", 0, 1), ("most", 0, 1), ("sum", 2, 3)]
        self.becomes(steps, steps)

    def test_one_like_the_last_ahead_of_it(self):
        self.becomes([IN, ("by", (2, 1), 0), ("sum", 0, 1), ("by", (2, 1), 0)], [IN, ("by", (2, 1), 0)])
        self.becomes([IN, IN], [IN])
        self.becomes([IN, ("by", (2, 1), 0), IN, ("by", (2, 1), 2)], [IN, ("by", (2, 1), 0)])
        self.becomes([IN, ("is", (1, 1)), ("sum", 0, 1), IN], [IN])

    def test_as_many_steps_as_can_be(self):
        self.becomes(plain(120), plain(120))
        self.becomes([IN] * 120, [IN])
        self.becomes([IN] * 118 + [("sum", at, at + 1) for at in (0, 100)], [IN, ("sum", 0, 0)])
        self.becomes([IN] + [("sum", at, at) for at in range(119)], [IN] + [("sum", at, at) for at in range(119)])

    def test_at_random(self):
        chance = random.Random(4)
        for turn in range(600):
            inputs = chance.randint(1, 3)
            program = some_program(chance, inputs, chance.randint(1, 12), 2)
            told = shortened(program)
            self.formed(told)
            steps = told[1]
            self.assertEqual(told[0], inputs)
            self.assertEqual([formula(steps, at) for at in range(len(steps))], wanted_formulas(program[1]))
            self.assertEqual(len({repr(step) for step in steps}), len(steps))
            self.assertEqual({k for step in steps for k in needs(step)}, set(range(len(steps) - 1)))
            for places in places_for(inputs, chance)[:4]:
                self.assertEqual(worth_of(told, places), worth_of(program, places))


class TestBehind(Checked):
    def put(self, outer, inner):
        told = behind(outer, inner)
        self.formed(told)
        self.assertEqual(told[0], inner[0])
        for places in places_for(inner[0], random.Random(6)):
            self.assertEqual(worth_of(told, places), worth_of(outer, [worth_of(inner, places)]))
        return told

    def test_every_kind_of_step(self):
        halved = (1, [IN, ("by", (1, 2), 0), ("is", (-1, 1)), ("sum", 1, 2)])
        fold = (1, [IN, ("by", (-1, 1), 0), ("most", 0, 1)])
        gap = (2, [IN, ("in", 1), ("by", (-1, 1), 1), ("sum", 0, 2)])
        last = (3, [IN, ("in", 1), ("in", 2), ("if", 0, 1, 2)])
        whole = (1, EACH)
        for outer in (halved, fold, whole, (1, [("is", (4, 1))])):
            for inner in (halved, fold, gap, last, (1, [("is", (-9, 1))])):
                self.put(outer, inner)
        self.put(fold, whole)

    def test_the_turn_of_both(self):
        twice = (1, [IN, ("by", (2, 1), 0)])
        more = (1, [("is", (1, 1)), IN, ("sum", 0, 1)])
        self.assertEqual(worth_of(behind(twice, more), [5]), 12)
        self.assertEqual(worth_of(behind(more, twice), [5]), 11)

    def test_outer_ones_whose_last_step_is_the_input(self):
        inner = (2, [IN, ("in", 1), ("least", 0, 1)])
        for outer in ((1, [IN]), (1, [IN, ("by", (2, 1), 0), IN]), (1, [("is", (1, 1)), IN]), (1, [IN] * 117)):
            self.put(outer, inner)

    def test_outer_ones_with_turns_at_the_end(self):
        inner = (2, [IN, ("in", 1), ("least", 0, 1)])
        for many in range(3):
            self.put((1, [IN, ("turns", many, 0, [IN, ("by", (3, 1), 0), IN])]), inner)
            self.put((1, [IN, ("turns", many, 0, [IN, ("by", (3, 1), 0)]), IN]), inner)

    def test_the_bound_of_steps(self):
        turning = (1, [IN, ("turns", 2, 0, plain(29))])
        self.assertEqual(size(turning)[0], 60)
        for outer, inner in (
            ((1, plain(60)), (1, plain(60))), ((1, plain(119)), (1, [IN])), ((1, [IN]), (1, plain(119))),
            (turning, turning), (turning, (3, plain(60))), ((1, [("is", (1, 1))] * 100), (1, [IN] * 20)),
        ):
            self.put(outer, inner)
            with self.assertRaises(BadProgram):
                behind((1, outer[1] + [IN]), inner)
            with self.assertRaises(BadProgram):
                behind(outer, (inner[0], inner[1] + [IN]))

    def test_the_bound_of_choices(self):
        turning = (1, [IN, ("turns", 4, 0, chosen(1))])
        for outer, inner in (
            ((1, chosen(4)), (1, chosen(4))), ((1, chosen(8)), (1, [IN])), ((1, [IN]), (1, chosen(8))),
            (turning, turning), ((1, chosen(1)), (2, chosen(7))),
        ):
            self.put(outer, inner)
            if inner[1] != [IN]:
                with self.assertRaises(BadProgram):
                    behind((1, outer[1] + [("most", 0, 0)]), inner)
            if outer[1] != [IN]:
                with self.assertRaises(BadProgram):
                    behind(outer, (inner[0], inner[1] + [("least", 0, 0)]))

    def test_at_random(self):
        chance = random.Random(9)
        for turn in range(250):
            outer = some_program(chance, 1, chance.randint(1, 10), 1)
            inner = some_program(chance, chance.randint(1, 3), chance.randint(1, 10), 1)
            if size(outer)[0] + size(inner)[0] <= 120 and size(outer)[1] + size(inner)[1] <= 8:
                self.put(outer, inner)
            else:
                with self.assertRaises(BadProgram):
                    behind(outer, inner)


class TestStirred(Checked):
    def stir(self, program, at):
        told = stirred(program, at)
        self.formed(told)
        self.assertEqual(told[0], program[0] + 1)
        for places in places_for(program[0], random.Random(6)):
            for more in (Fraction(0), Fraction(1), Fraction(-5, 3), Fraction(100)):
                self.assertEqual(worth_of(told, places + [more]), reckoned(program[1], places, {at: more})[-1])
        return told

    def test_each_step(self):
        for inputs in (1, 2):
            for at in range(len(EACH)):
                self.stir((inputs, EACH), at)

    def test_the_last_step(self):
        self.assertEqual(worth_of(self.stir((1, [IN]), 0), [5, 7]), 12)
        self.assertEqual(worth_of(self.stir((2, [IN, ("in", 1), ("most", 0, 1)]), 2), [5, 7, 2]), 9)

    def test_a_step_needed_several_times(self):
        steps = [IN, ("sum", 0, 0), ("by", (2, 1), 0), ("if", 0, 1, 2), ("turns", 2, 0, plain(2)), ("sum", 3, 4)]
        for at in range(len(steps)):
            self.stir((1, steps), at)
        self.assertEqual(worth_of(stirred((1, [IN, ("sum", 0, 0), ("sum", 1, 0)]), 0), [1, 10]), 33)

    def test_a_step_that_is_not_needed(self):
        self.stir((1, [IN, ("is", (1, 1)), ("by", (2, 1), 0)]), 1)

    def test_steps_with_turns(self):
        steps = [IN, ("turns", 3, 0, plain(3)), ("sum", 1, 0), ("turns", 2, 2, [IN, ("is", (1, 1)), ("most", 0, 1)])]
        for at in range(4):
            self.stir((2, steps), at)

    def test_the_bound(self):
        for inputs in (1, 2):
            for steps in (plain(118), [IN, ("turns", 2, 0, plain(58))], [IN, ("turns", 4, 0, plain(29))]):
                self.assertEqual(size((inputs, steps))[0], 118)
                for at in (0, len(steps) // 2, len(steps) - 1):
                    told = self.stir((inputs, steps), at)
                    self.assertLessEqual(size(told)[0], 120)
                    with self.assertRaises(BadProgram):
                        stirred((inputs, steps + [("sum", 0, 0)]), at)
                    with self.assertRaises(BadProgram):
                        stirred((inputs, steps + [("sum", 0, 0)] * 2), at)
        with self.assertRaises(BadProgram):
            stirred((3, [IN]), 0)

    def test_at_random(self):
        chance = random.Random(2)
        for turn in range(150):
            program = some_program(chance, chance.randint(1, 2), chance.randint(1, 10), 1)
            if size(program)[0] <= 118:
                self.stir(program, chance.randrange(len(program[1])))


class TestFixed(Checked):
    STEPS = [("in", 2), ("in", 1), IN, ("sum", 0, 1), ("by", (2, 1), 2), ("if", 3, 4, 0), ("in", 1), ("most", 5, 6)]

    def fix(self, program, places, at):
        told = fixed(program, places, at)
        self.formed(told)
        self.assertEqual(told[0], 1)
        for spot in SPOTS[::3]:
            moved = [frac(place) for place in places]
            moved[at] = spot
            self.assertEqual(worth_of(told, [spot]), worth_of(program, moved))
        return told

    def test_each_input(self):
        for places in ([(1, 2), (-3, 1), (0, 1)], [(0, 1), (5, 3), (-7, 2)]):
            for at in range(3):
                self.fix((3, self.STEPS), places, at)
        for at in range(2):
            self.fix((2, [IN, ("in", 1), ("least", 0, 1), ("turns", 2, 2, plain(2))]), [(1, 2), (-3, 1)], at)
        self.fix((1, EACH), [(4, 1)], 0)

    def test_an_input_that_is_not_there(self):
        self.fix((3, [IN, ("in", 1), ("sum", 0, 1)]), [(1, 1), (2, 1), (3, 1)], 2)
        self.fix((2, [("is", (1, 2))]), [(1, 1), (2, 1)], 0)

    def test_bodies_keep_their_own_input(self):
        for at in range(2):
            told = self.fix((2, [("in", 1), ("turns", 2, 0, [IN, ("by", (3, 1), 0)])]), [(1, 1), (2, 1)], at)
            self.assertEqual(told[1][1][3], [IN, ("by", (3, 1), 0)])

    def test_at_random(self):
        chance = random.Random(7)
        for turn in range(150):
            inputs = chance.randint(1, 3)
            program = some_program(chance, inputs, chance.randint(1, 12), 1)
            self.fix(program, [pair(chance.choice(SPOTS)) for k in range(inputs)], chance.randrange(inputs))


class TestRefusals(unittest.TestCase):
    def refused(self, error, act, *parts):
        with self.assertRaises(error):
            act(*parts)

    def test_no_program(self):
        for bad in BAD_PROGRAMS:
            self.refused(BadProgram, unrolled, bad)
            self.refused(BadProgram, shortened, bad)
            self.refused(BadProgram, behind, bad, (1, [IN]))
            self.refused(BadProgram, behind, (1, [IN]), bad)
            self.refused(BadProgram, stirred, bad, 0)
            self.refused(BadProgram, fixed, bad, [(1, 1)], 0)

    def test_behind_refuses_in_turn(self):
        for inputs in (2, 3):
            self.refused(Others, behind, (inputs, [IN]), (1, [IN]))
            self.refused(Others, behind, (inputs, plain(120)), (1, plain(120)))
            self.refused(Others, behind, (inputs, chosen(8)), (1, chosen(8)))
            for bad in BAD_PROGRAMS:
                self.refused(BadProgram, behind, (inputs, [IN]), bad)
        self.refused(BadProgram, behind, (1, plain(120)), (1, plain(120)))

    def test_no_count_of_a_step(self):
        for bad in NOT_WHOLE + [-1, 2, 3, 100, -HUGE, HUGE, (0, 1)]:
            self.refused(BadStep, stirred, (1, [IN, IN]), bad)
            self.refused(BadStep, stirred, (3, plain(120)), bad if bad not in (2, 3, 100) else 120)
        for bad in BAD_PROGRAMS:
            self.refused(BadProgram, stirred, bad, None)
        for at in range(3):
            self.refused(BadProgram, stirred, (3, plain(3)), at)
        self.refused(BadStep, stirred, (1, [IN, ("turns", 2, 0, plain(9))]), 2)

    def test_fixed_refuses_in_turn(self):
        for bad in NOT_NUMBER_LISTS + [[]]:
            self.refused(BadPlaces, fixed, (1, [IN]), bad, 0)
            self.refused(BadPlaces, fixed, (1, [IN]), bad, None)
        for inputs in (1, 2, 3):
            for many in range(6):
                if many != inputs:
                    self.refused(BadPlaces, fixed, (inputs, [IN]), [(1, 1)] * many, 9)
        for bad in NOT_NUMBERS:
            self.refused(BadPlaces, fixed, (1, [IN]), [bad], 0)
            self.refused(BadPlaces, fixed, (2, [IN]), [(1, 1), bad], 0)
            self.refused(BadPlaces, fixed, (3, [("is", (1, 1))]), [(1, 1), bad, (2, 1)], -1)
        for inputs in (1, 2, 3):
            for bad in NOT_WHOLE + [-1, inputs, inputs + 1, HUGE, (0, 1)]:
                self.refused(BadStep, fixed, (inputs, [IN] * 5), [(1, 1)] * inputs, bad)
        for bad in BAD_PROGRAMS:
            self.refused(BadProgram, fixed, bad, None, None)


class TestNothingKept(unittest.TestCase):
    ACTS = [
        unrolled, shortened, lambda program: behind((1, [IN]), program), lambda program: behind(program, (1, [IN])),
        lambda program: stirred(program, 2), lambda program: fixed(program, [(1, 2)], 0),
    ]

    def test_nothing_handed_in_is_changed(self):
        for act in self.ACTS:
            program = (1, copy.deepcopy(EACH))
            act(program)
            self.assertEqual(program, (1, EACH))
        places = [(1, 2), (3, 4)]
        fixed((2, [("in", 1)]), places, 0)
        self.assertEqual(places, [(1, 2), (3, 4)])

    def test_what_is_told_is_new(self):
        for act in self.ACTS:
            program = (1, copy.deepcopy(EACH))
            first, second = act(program), act(program)
            wanted = copy.deepcopy(first)
            for told in (program, first):
                for step in told[1]:
                    if step[0] == "turns":
                        step[3].clear()
                told[1].clear()
            self.assertEqual(second, wanted)

    def test_numbers_and_steps_told_are_new(self):
        number, place = tuple([7, 3]), tuple([4, 3])
        step = tuple(["is", number])
        for act in (unrolled, shortened, lambda program: fixed(program, [place], 0)):
            told = act((1, [step]))
            self.assertIsNot(told[1][0], step)
            self.assertIsNot(told[1][0][1], number)
        self.assertIsNot(fixed((2, [("in", 1)]), [place, place], 0)[1][0][1], place)

    def test_numbers_of_any_size(self):
        program = (1, [IN, ("by", (HUGE, HUGE + 1), 0), ("is", (-1, HUGE)), ("sum", 1, 2)])
        for act in (unrolled, shortened):
            self.assertEqual(act(program), program)
        self.assertEqual(fixed((2, [("in", 1)]), [(1, 1), (HUGE, HUGE + 1)], 0), (1, [("is", (HUGE, HUGE + 1))]))


if __name__ == "__main__":
    unittest.main()

"""bendwright/programs.py: promises [1], [3] and [4]."""

import copy
import unittest

from bendwright.errors import BadProgram
from bendwright.programs import size
from tests.wrong import NOT_NUMBERS, NOT_WHOLE

IN = ("in", 0)
EACH = [
    ("is", (3, 2)),
    ("in", 0),
    ("sum", 0, 1),
    ("by", (-1, 2), 2),
    ("least", 0, 3),
    ("most", 4, 1),
    ("if", 5, 4, 0),
    ("turns", 2, 6, [("in", 0), ("by", (1, 2), 0)]),
]


def plain(many):
    """So many steps without a choice."""
    return [IN] + [("by", (1, 2), at) for at in range(many - 1)]


def with_choices(many):
    """One step, and so many choices of every kind behind it."""
    kinds = [("least", 0, 0), ("most", 0, 0), ("if", 0, 0, 0)]
    return [IN] + [kinds[at % 3] for at in range(many)]


class TestSize(unittest.TestCase):
    def sized(self, program, wanted):
        told = size(program)
        self.assertEqual(told, wanted)
        self.assertIs(type(told), tuple)
        self.assertEqual([type(part) for part in told], [int, int])

    def test_one_to_three_inputs(self):
        for inputs in (1, 2, 3):
            steps = [("in", at) for at in range(inputs)]
            self.sized((inputs, steps), (inputs, 0))
            self.sized((inputs, [("is", (0, 1))]), (1, 0))

    def test_every_kind_of_step(self):
        wanted = [(1, 0), (2, 0), (3, 0), (4, 0), (5, 1), (6, 2), (7, 3), (12, 3)]
        for many in range(1, 9):
            self.sized((1, EACH[:many]), wanted[many - 1])

    def test_a_body_counts_as_often_as_it_is_done(self):
        body = [IN, ("is", (1, 1)), ("least", 0, 1)]
        for many in range(7):
            self.sized((1, [IN, ("turns", many, 0, body)]), (2 + 3 * many, many))

    def test_choices_of_every_kind_in_a_body(self):
        body = [IN, ("least", 0, 0), ("most", 0, 0), ("if", 0, 0, 0)]
        self.sized((2, [("in", 1), ("turns", 2, 0, body)]), (10, 6))

    def test_several_turns(self):
        steps = [IN, ("turns", 3, 0, plain(4)), ("turns", 2, 1, with_choices(2)), ("most", 1, 2)]
        self.sized((1, steps), (4 + 12 + 6, 5))

    def test_a_body_that_is_not_done_counts_nothing(self):
        steps = [IN, ("turns", 0, 0, with_choices(119))]
        self.sized((1, steps), (2, 0))

    def test_numbers_of_many_figures(self):
        huge = 10 ** 5000
        self.sized((1, [("is", (huge + 1, huge)), ("by", (-huge, huge + 1), 0)]), (2, 0))


class TestBounds(unittest.TestCase):
    def accepted(self, program, wanted):
        self.assertEqual(size(program), wanted)

    def refused(self, program):
        with self.assertRaises(BadProgram):
            size(program)

    def test_steps(self):
        self.accepted((1, plain(120)), (120, 0))
        self.refused((1, plain(121)))

    def test_steps_run(self):
        self.accepted((1, plain(3) + [("turns", 4, 2, plain(29))]), (120, 0))
        self.refused((1, plain(4) + [("turns", 4, 2, plain(29))]))
        self.accepted((1, [IN, ("turns", 2, 0, plain(59))]), (120, 0))
        self.refused((1, [IN, ("turns", 2, 0, plain(60))]))
        self.accepted((1, [IN, ("turns", 1, 0, plain(118))]), (120, 0))
        self.refused((1, [IN, ("turns", 1, 0, plain(119))]))
        self.refused((1, [IN, ("turns", 6, 0, plain(120))]))

    def test_choices(self):
        for many in (1, 7, 8):
            self.accepted((1, with_choices(many)), (many + 1, many))
        self.refused((1, with_choices(9)))

    def test_choices_of_one_kind(self):
        for step in (("least", 0, 0), ("most", 0, 0), ("if", 0, 0, 0)):
            self.accepted((1, [IN] + [step] * 8), (9, 8))
            self.refused((1, [IN] + [step] * 9))

    def test_choices_run_in_bodies(self):
        body = with_choices(2)
        self.accepted((1, [IN, ("turns", 4, 0, body)]), (14, 8))
        self.refused((1, [IN, ("turns", 5, 0, body)]))
        self.refused((1, [IN, ("turns", 4, 0, body), ("most", 0, 1)]))
        self.accepted((1, [IN, ("turns", 3, 0, body), ("most", 0, 1), ("if", 0, 1, 2)]), (13, 8))

    def test_a_body_of_120_steps_at_most(self):
        self.accepted((1, [IN, ("turns", 0, 0, plain(120))]), (2, 0))
        self.refused((1, [IN, ("turns", 0, 0, plain(121))]))

    def test_turns_of_0_to_6_times(self):
        for many in range(7):
            self.accepted((1, [IN, ("turns", many, 0, [IN])]), (2 + many, 0))
        for many in (-1, 7, -6, 100, 10 ** 5000, -(10 ** 5000)):
            self.refused((1, [IN, ("turns", many, 0, [IN])]))

    def test_all_steps_with_turns(self):
        self.accepted((1, [IN] + [("turns", 0, 0, [IN])] * 119), (120, 0))
        self.refused((1, [IN] + [("turns", 0, 0, [IN])] * 118 + [("turns", 2, 0, [IN])]))


class TestRefusals(unittest.TestCase):
    def refused(self, program):
        with self.subTest(program=str(type(program))):
            with self.assertRaises(BadProgram):
                size(program)

    def step_refused(self, step):
        """Behind two good steps, and as the second of a body."""
        self.refused((2, [IN, ("in", 1), step]))
        self.refused((2, [IN, ("in", 1), step, IN]))
        self.refused((1, [IN, ("turns", 0, 0, [IN, step])]))
        self.refused((1, [IN, ("turns", 1, 0, [IN, step])]))

    def test_no_tuple_of_two(self):
        for bad in NOT_WHOLE + [0, 1, 10 ** 5000]:
            self.refused(bad)
        for bad in [(1,), (1, [IN], 1), [1, [IN]], ([IN], 1), ([IN],), (1, 1), {0: 1, 1: [IN]}, "in", ((1, [IN]),)]:
            self.refused(bad)

    def test_counts_of_inputs(self):
        for bad in NOT_WHOLE + [0, -1, 4, 100, 10 ** 5000, -(10 ** 5000), (2, 1)]:
            self.refused((bad, [("is", (1, 1))]))

    def test_no_list_of_steps(self):
        for bad in [value for value in NOT_WHOLE if not isinstance(value, list)]:
            self.refused((1, bad))
        self.refused((1, (IN,)))
        self.refused((1, {0: IN}))
        self.refused((1, "in"))
        self.refused((1, 1))

    def test_an_empty_list_of_steps(self):
        self.refused((1, []))

    def test_steps_that_are_no_tuples(self):
        for bad in NOT_WHOLE + [0, 1]:
            self.refused((1, [bad]))
            self.step_refused(bad)
        for bad in [["in", 0], "in", {0: "in", 1: 0}, (), [("in", 0)], (("in", 0),)]:
            self.refused((1, [bad]))
            self.step_refused(bad)

    def test_the_first_part(self):
        words = [
            "", "In", "IN", " in", "in ", "ins", "i", "Is", "add", "plus", "times", "max", "min", "Sum", "leas",
            "mosts", "iff", "turn", "Turns", "not", "number", "step", "body", "inlet",
        ]
        for word in words + NOT_WHOLE + [0, 1]:
            self.step_refused((word,))
            self.step_refused((word, 0))
            self.step_refused((word, (1, 1)))
            self.step_refused((word, 0, 0))
            self.step_refused((word, (1, 1), 0))
            self.step_refused((word, 0, 0, 0))
            self.step_refused((word, 0, 0, [IN]))
        self.step_refused((b"in", 0))

    def test_too_few_or_too_many_parts(self):
        good = [
            ("is", (1, 1)), ("in", 0), ("sum", 0, 0), ("by", (1, 1), 0), ("least", 0, 0), ("most", 0, 0),
            ("if", 0, 0, 0), ("turns", 1, 0, [IN]),
        ]
        for step in good:
            self.assertEqual(size((1, [IN, step]))[0], 3 if step[0] == "turns" else 2)
            for many in range(1, len(step)):
                self.step_refused(step[:many])
            for more in (None, 0, (1, 1), [IN], "in"):
                self.step_refused(step + (more,))

    def test_counts_of_steps_that_are_not_ahead(self):
        for bad in NOT_WHOLE + [-1, -2, 2, 3, 100, 10 ** 5000, -(10 ** 5000), (0, 1)]:
            for step in [
                ("sum", bad, 0), ("sum", 0, bad), ("by", (1, 2), bad), ("least", bad, 0), ("least", 0, bad),
                ("most", bad, 0), ("most", 0, bad), ("if", bad, 0, 0), ("if", 0, bad, 0), ("if", 0, 0, bad),
                ("turns", 1, bad, [IN]), ("turns", 0, bad, [IN]),
            ]:
                self.step_refused(step)

    def test_none_is_ahead_of_the_first_step(self):
        for step in [
            ("sum", 0, 0), ("by", (1, 2), 0), ("least", 0, 0), ("most", 0, 0), ("if", 0, 0, 0),
            ("turns", 0, 0, [IN]),
        ]:
            self.refused((1, [step]))
            self.refused((1, [step, IN]))

    def test_in_a_body_only_its_own_steps_are_ahead(self):
        outer = [IN, ("is", (1, 1)), ("is", (2, 1))]
        for step in [
            ("sum", 1, 0), ("sum", 0, 1), ("by", (1, 2), 1), ("least", 1, 0), ("most", 0, 1), ("if", 0, 0, 1),
        ]:
            self.refused((1, outer + [("turns", 1, 0, [IN, step])]))
            self.assertEqual(size((1, outer + [("turns", 1, 0, [IN, IN, step])]))[0], 7)

    def test_inputs_that_there_are_not(self):
        for inputs in (1, 2, 3):
            for bad in NOT_WHOLE + [-1, inputs, inputs + 1, 10 ** 5000]:
                self.refused((inputs, [("in", bad)]))

    def test_in_a_body_there_is_one_input(self):
        for inputs in (1, 2, 3):
            for bad in NOT_WHOLE + [-1, 1, 2, 3]:
                self.refused((inputs, [IN, ("turns", 1, 0, [("in", bad)])]))
                self.refused((inputs, [IN, ("turns", 0, 0, [("in", bad)])]))

    def test_bad_numbers(self):
        for bad in NOT_NUMBERS:
            self.step_refused(("is", bad))
            self.step_refused(("by", bad, 0))

    def test_times_of_turns(self):
        for bad in NOT_WHOLE + [-1, 7, (1, 1)]:
            self.refused((1, [IN, ("turns", bad, 0, [IN])]))

    def test_bodies_that_are_no_lists_or_empty(self):
        for bad in NOT_WHOLE + [0, 1, (IN,), "in", (1, [IN]), {0: IN}, IN]:
            for many in (0, 1):
                self.refused((1, [IN, ("turns", many, 0, bad)]))

    def test_turns_in_a_body(self):
        inner = ("turns", 1, 0, [IN])
        for many in (0, 1, 2):
            self.refused((1, [IN, ("turns", many, 0, [IN, inner])]))
            self.refused((1, [IN, ("turns", many, 0, [IN, ("turns", 0, 0, [IN])])]))

    def test_a_bad_step_behind_too_many(self):
        self.refused((1, plain(119) + [None, None, None]))


class TestNothingKept(unittest.TestCase):
    def test_programs_stay_as_they_were(self):
        program = (1, copy.deepcopy(EACH))
        first = size(program)
        self.assertEqual(program, (1, EACH))
        self.assertEqual(size(program), first)

    def test_a_program_is_read_anew_each_time(self):
        steps = [IN]
        program = (1, steps)
        self.assertEqual(size(program), (1, 0))
        steps.append(("most", 0, 0))
        self.assertEqual(size(program), (2, 1))
        steps.append(None)
        with self.assertRaises(BadProgram):
            size(program)
        self.assertEqual(steps, [IN, ("most", 0, 0), None])


if __name__ == "__main__":
    unittest.main()

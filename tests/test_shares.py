"""bendwright/shares.py: promises [1] and [2]."""

import random
import unittest
from fractions import Fraction

from bendwright.errors import BadNumber
from bendwright.shares import less, made, order, over, plus, times
from tests.wrong import NOT_NUMBERS, NOT_WHOLE

BIG = 10 ** 3000 + 7
BIGGER = 3 ** 9000

NUMBERS = [
    (0, 1), (1, 1), (-1, 1), (2, 1), (-2, 1), (7, 1), (1, 2), (-1, 2), (1, 3), (2, 3), (-2, 3), (3, 2), (-3, 2),
    (5, 6), (-5, 6), (1, 6), (7, 4), (10 ** 30 + 1, 10 ** 30), (-(10 ** 30) - 1, 10 ** 30), (10 ** 40, 1),
    (1, 10 ** 40), (BIG, 1), (-BIG, 1), (1, BIG), (BIG, BIG + 1), (BIG + 1, BIG), (-BIG, BIG + 1), (BIG, BIGGER),
    (BIGGER, BIG), (2 ** 61, 3 ** 40), (-(2 ** 61), 3 ** 40),
]

FIVE = [plus, less, times, over, order]


def as_fraction(number):
    return Fraction(number[0], number[1])


def as_pair(fraction):
    return (fraction.numerator, fraction.denominator)


class Checked(unittest.TestCase):
    def same(self, told, wanted):
        """Alike in kind too: no True for 1, no list for a tuple."""
        self.assertEqual(told, wanted)
        self.assertIs(type(told), tuple)
        self.assertEqual([type(part) for part in told], [int, int])


class TestMade(Checked):
    def test_lowest_terms(self):
        self.same(made(6, 4), (3, 2))
        self.same(made(3, 2), (3, 2))
        self.same(made(12, 4), (3, 1))
        self.same(made(7, 7), (1, 1))
        self.same(made(-6, 4), (-3, 2))
        self.same(made(1, 5), (1, 5))

    def test_nought(self):
        self.same(made(0, 1), (0, 1))
        self.same(made(0, 9), (0, 1))
        self.same(made(0, -9), (0, 1))

    def test_second_below_nought(self):
        self.same(made(6, -4), (-3, 2))
        self.same(made(-6, -4), (3, 2))
        self.same(made(1, -1), (-1, 1))

    def test_small_ones_as_fractions(self):
        for above in range(-13, 14):
            for below in list(range(-13, 0)) + list(range(1, 14)):
                self.same(made(above, below), as_pair(Fraction(above, below)))

    def test_thousands_of_figures(self):
        self.same(made(BIG * 6, BIG * 4), (3, 2))
        self.same(made(BIG * 6, -BIG * 4), (-3, 2))
        self.same(made(BIG * BIGGER, BIGGER * (BIG + 1)), (BIG, BIG + 1))
        self.same(made(10 ** 6000, 10 ** 5999), (10, 1))
        self.same(made(5, 10 ** 6000), (1, 2 * 10 ** 5999))

    def test_by_nought_is_refused(self):
        for above in (0, 1, -1, 5, BIG):
            with self.assertRaises(BadNumber):
                made(above, 0)

    def test_no_whole_numbers_are_refused(self):
        for bad in NOT_WHOLE:
            for other in (0, 1, -3, bad):
                with self.subTest(bad=bad, other=other):
                    with self.assertRaises(BadNumber):
                        made(bad, other)
                    with self.assertRaises(BadNumber):
                        made(other, bad)


class TestReckoning(Checked):
    def test_ordinary(self):
        self.same(plus((1, 2), (1, 3)), (5, 6))
        self.same(plus((1, 2), (1, 2)), (1, 1))
        self.same(plus((1, 2), (-1, 2)), (0, 1))
        self.same(less((1, 2), (1, 3)), (1, 6))
        self.same(less((1, 3), (1, 2)), (-1, 6))
        self.same(less((1, 3), (1, 3)), (0, 1))
        self.same(times((2, 3), (3, 4)), (1, 2))
        self.same(times((2, 3), (-3, 2)), (-1, 1))
        self.same(times((0, 1), (-3, 2)), (0, 1))
        self.same(over((2, 3), (4, 3)), (1, 2))
        self.same(over((2, 3), (-4, 3)), (-1, 2))
        self.same(over((-2, 3), (-4, 3)), (1, 2))
        self.same(over((0, 1), (-4, 3)), (0, 1))

    def test_all_pairs_as_fractions(self):
        for one in NUMBERS:
            for other in NUMBERS:
                left, right = as_fraction(one), as_fraction(other)
                self.same(plus(one, other), as_pair(left + right))
                self.same(less(one, other), as_pair(left - right))
                self.same(times(one, other), as_pair(left * right))
                if right != 0:
                    self.same(over(one, other), as_pair(left / right))

    def test_many_as_fractions(self):
        chance = random.Random(2)
        for turn in range(3000):
            left = Fraction(chance.randint(-60, 60), chance.randint(1, 60))
            right = Fraction(chance.randint(-60, 60), chance.randint(1, 60))
            one, other = as_pair(left), as_pair(right)
            self.same(plus(one, other), as_pair(left + right))
            self.same(less(one, other), as_pair(left - right))
            self.same(times(one, other), as_pair(left * right))
            self.assertEqual(order(one, other), (left > right) - (left < right))
            if right != 0:
                self.same(over(one, other), as_pair(left / right))

    def test_over_nought_is_refused(self):
        for one in NUMBERS:
            with self.assertRaises(BadNumber):
                over(one, (0, 1))


class TestOrder(Checked):
    def test_ordinary(self):
        self.assertEqual(order((1, 3), (1, 2)), -1)
        self.assertEqual(order((1, 2), (1, 3)), 1)
        self.assertEqual(order((1, 2), (1, 2)), 0)
        self.assertEqual(order((-1, 2), (-1, 3)), -1)
        self.assertEqual(order((-1, 2), (1, 2)), -1)
        self.assertEqual(order((0, 1), (0, 1)), 0)
        self.assertEqual(order((0, 1), (-1, 9)), 1)

    def test_all_pairs_as_fractions(self):
        for one in NUMBERS:
            for other in NUMBERS:
                left, right = as_fraction(one), as_fraction(other)
                told = order(one, other)
                self.assertEqual(told, (left > right) - (left < right))
                self.assertIs(type(told), int)


class TestRefusals(unittest.TestCase):
    def test_no_number_on_either_hand(self):
        for act in FIVE:
            for bad in NOT_NUMBERS:
                with self.subTest(act=act.__name__, kind=type(bad)):
                    with self.assertRaises(BadNumber):
                        act(bad, (1, 2))
                    with self.assertRaises(BadNumber):
                        act((1, 2), bad)
                    with self.assertRaises(BadNumber):
                        act(bad, bad)
                    with self.assertRaises(BadNumber):
                        act(bad, (0, 1))

    def test_numbers_of_many_figures_are_refused_alike(self):
        for act in FIVE:
            with self.assertRaises(BadNumber):
                act((BIG * 2, BIGGER * BIG), (1, 2))
            with self.assertRaises(BadNumber):
                act((1, 2), (BIG, -BIGGER))


class TestNothingKept(unittest.TestCase):
    def test_the_same_twice(self):
        one, other = (6, 5), (-4, 3)
        for act in FIVE:
            first = act(one, other)
            self.assertEqual(act(one, other), first)
            self.assertEqual((one, other), ((6, 5), (-4, 3)))

    def test_refused_lists_stay_as_they_were(self):
        bad = [1, 2]
        for act in FIVE:
            with self.assertRaises(BadNumber):
                act(bad, (1, 2))
        self.assertEqual(bad, [1, 2])


if __name__ == "__main__":
    unittest.main()

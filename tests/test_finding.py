"""bendwright/finding.py: promises [1], [15], [16] and [17]."""

import copy
import random
import unittest
from fractions import Fraction

from bendwright.errors import BadNumber, BadPicture
from bendwright.finding import Near, Reached, area, greatest, least, spans
from bendwright.mixing import Answer, together
from bendwright.pictures import Picture, mirrored, picture, scaled, tidy
from tests.drawing import cells, fields, limit_at, some_picture, told_at
from tests.reckoning import bent_program, frac, pair
from tests.wrong import NOT_NUMBERS, bad_pictures

IN = ("in", 0)
HUGE = 10 ** 3000
NIL = (0, 1)
ONE = (1, 1)
FOLD = (1, [IN, ("by", (-1, 1), 0), ("most", 0, 1)])
STAIR = (1, [IN, ("is", (-5, 1)), ("is", (5, 1)), ("if", 0, 1, 2)])
TENT = [IN, ("by", (-1, 1), 0), ("is", ONE), ("sum", 1, 2), ("least", 0, 3), ("by", (2, 1), 4)]


def line(first, worth, slope, last):
    """A picture from 0 to 1 with worths of their own at its ends."""
    return Picture([NIL, ONE], [pair(first), pair(last)], [(pair(worth), pair(slope))])


def lone(worth, rest=0):
    """A level picture from -1 to 1 with a worth of its own at 0."""
    return Picture([(-1, 1), NIL, ONE], [pair(rest), pair(worth), pair(rest)], [(pair(rest), NIL)] * 2)


class Checked(unittest.TestCase):
    def is_number(self, told):
        self.assertIs(type(told), tuple)
        self.assertEqual(told, pair(frac(told)))


class TestBounds(Checked):
    """[15]."""

    def reached(self, told, value, *places):
        self.assertIs(type(told), Reached)
        self.assertEqual(told.value, value)
        self.is_number(told.value)
        self.is_number(told.place)
        self.assertIn(told.place, places)

    def near(self, told, value, *wanted):
        self.assertIs(type(told), Near)
        self.assertEqual(told.value, value)
        self.is_number(told.value)
        self.is_number(told.place)
        self.assertIs(type(told.up), bool)
        self.assertIn((told.place, told.up), wanted)

    def bounded(self, made):
        """Both bounds by fractions."""
        spots = [frac(place) for place in made.places]
        ends = [(limit_at(made, place, way), place, way > 0) for place in spots for way in (-1, 1)]
        ends = [(limit[0], place, up) for limit, place, up in ends if limit is not None]
        inner = [told_at(made, place) for place in cells(made)]
        for act, choose in ((least, min), (greatest, max)):
            told = act(made)
            value = choose(inner + [limit for limit, place, up in ends])
            self.assertEqual(told.value, pair(value))
            if value in inner:
                self.assertIs(type(told), Reached)
                self.assertEqual(told_at(made, frac(told.place)), value)
                self.is_number(told.place)
            else:
                self.near(told, pair(value), *[(pair(place), up) for limit, place, up in ends if limit == value])

    def test_reached_at_a_place(self):
        self.reached(least(picture(FOLD, (-2, 1), (3, 1))), NIL, NIL)
        self.reached(greatest(scaled(picture(FOLD, (-2, 1), (3, 1)), (-1, 1))), NIL, NIL)

    def test_reached_at_an_end(self):
        self.reached(greatest(picture(FOLD, (-2, 1), (3, 1))), (3, 1), (3, 1))
        self.reached(greatest(picture(FOLD, (-4, 1), (3, 1))), (4, 1), (-4, 1))
        self.reached(least(line(0, 0, 1, 1)), NIL, NIL)
        self.reached(greatest(line(0, 0, 1, 1)), ONE, ONE)
        self.reached(least(line(1, 1, -1, 0)), NIL, ONE)

    def test_reached_within_a_level_piece_alone(self):
        made = Picture([NIL, ONE, (2, 1)], [(3, 1), (4, 1), (5, 1)], [((3, 1), ONE), ((1, 2), NIL)])
        told = least(made)
        self.assertEqual((type(told), told.value), (Reached, (1, 2)))
        self.assertTrue(1 < frac(told.place) < 2)
        told = greatest(scaled(made, (-1, 1)))
        self.assertEqual((type(told), told.value), (Reached, (-1, 2)))
        self.assertTrue(1 < frac(told.place) < 2)

    def test_near_at_ends(self):
        made = line(5, 0, 1, 5)
        self.near(least(made), NIL, (NIL, True))
        self.reached(greatest(made), (5, 1), NIL, ONE)
        made = line(5, 2, -2, 5)
        self.near(least(made), NIL, (ONE, False))
        self.near(greatest(line(0, 2, -1, 0)), (2, 1), (NIL, True))
        self.near(greatest(line(0, 2, 1, 0)), (3, 1), (ONE, False))

    def test_near_within(self):
        for first, second, place_up in (
            ((1, -1), (3, 1), (ONE, False)), ((3, -1), (0, 1), (ONE, True)), ((3, -1), (5, -1), None),
        ):
            pieces = [(pair(worth), pair(slope)) for worth, slope in (first, second)]
            made = Picture([NIL, ONE, (2, 1)], [(9, 1), (8, 1), (7, 1)], pieces)
            if place_up is None:
                self.near(least(made), (2, 1), (ONE, False))
            else:
                self.near(least(made), NIL, place_up)
            made = scaled(made, (-1, 1))
            self.near(greatest(made), (-2, 1) if place_up is None else NIL, place_up or (ONE, False))

    def test_near_at_several_places(self):
        made = Picture([NIL, ONE, (2, 1)], [(9, 1)] * 3, [(ONE, (-1, 1)), (NIL, ONE)])
        self.near(least(made), NIL, (ONE, True), (ONE, False))
        made = Picture([NIL, ONE, (2, 1)], [(9, 1)] * 3, [(NIL, ONE), (ONE, (-1, 1))])
        self.near(least(made), NIL, (NIL, True), ((2, 1), False))

    def test_reached_elsewhere_is_not_near(self):
        made = Picture([NIL, ONE, (2, 1)], [(9, 1), (9, 1), NIL], [(NIL, ONE), ((5, 1), NIL)])
        self.reached(least(made), NIL, (2, 1))
        made = Picture([NIL, ONE, (3, 1)], [(9, 1), (9, 1), (9, 1)], [(NIL, ONE), (NIL, NIL)])
        told = least(made)
        self.assertEqual((type(told), told.value), (Reached, NIL))
        self.assertTrue(1 < frac(told.place) < 3)

    def test_a_lone_worth(self):
        self.reached(least(lone(-2)), (-2, 1), NIL)
        self.reached(greatest(lone(2)), (2, 1), NIL)
        for act in (lambda: greatest(lone(-2)), lambda: least(lone(2))):
            told = act()
            self.assertEqual((type(told), told.value), (Reached, NIL))
            self.assertTrue(-1 <= frac(told.place) <= 1 and told.place != NIL)

    def test_level(self):
        for act in (least, greatest):
            told = act(lone(0))
            self.assertEqual((type(told), told.value), (Reached, NIL))
            self.assertTrue(-1 <= frac(told.place) <= 1)

    def test_a_stair(self):
        self.assertEqual(least(picture(STAIR, (-1, 1), ONE)).value, (-5, 1))
        told = greatest(picture(STAIR, (-1, 1), ONE))
        self.assertEqual((type(told), told.value), (Reached, (5, 1)))
        self.assertTrue(0 < frac(told.place) <= 1)

    def test_numbers_of_any_size(self):
        made = Picture([(-HUGE, 1), (HUGE, 1)], [NIL, NIL], [((1, HUGE), (1, HUGE ** 2))])
        self.reached(least(made), NIL, (-HUGE, 1), (HUGE, 1))
        self.near(greatest(made), pair(Fraction(3, HUGE)), ((HUGE, 1), False))

    def test_at_random(self):
        chance = random.Random(51)
        for turn in range(300):
            self.bounded(some_picture(chance))
        for turn in range(80):
            self.bounded(picture(bent_program(chance, 1), (-3, 1), (3, 1)))

    def test_the_classes(self):
        self.assertEqual((Reached.__bases__, Near.__bases__), ((Answer,), (Answer,)))
        self.assertEqual(vars(Reached(ONE, NIL)), {"value": ONE, "place": NIL})
        self.assertEqual(vars(Near(ONE, NIL, True)), {"value": ONE, "place": NIL, "up": True})


class TestSpans(Checked):
    """[16]."""

    def spanned(self, made, value):
        """The spans, each place of each kind being in one of them just if it has the value."""
        told = spans(made, value)
        self.assertIs(type(told), list)
        for span in told:
            self.assertIs(type(span), tuple)
            low, high, low_in, high_in = span
            self.is_number(low)
            self.is_number(high)
            self.assertEqual((type(low_in), type(high_in)), (bool, bool))
            self.assertLessEqual(frac(low), frac(high))
            if low == high:
                self.assertTrue(low_in and high_in)
        for one, other in zip(told, told[1:]):
            self.assertLessEqual(frac(one[1]), frac(other[0]))
            if one[1] == other[0]:
                self.assertFalse(one[3] or other[2])
        for place in cells(made, [value]):
            inside = [
                frac(low) < place < frac(high) or low_in and place == frac(low) or high_in and place == frac(high)
                for low, high, low_in, high_in in told
            ]
            self.assertEqual(sum(inside), told_at(made, place) == frac(value))
        return told

    def test_at_places_and_between(self):
        made = picture(FOLD, (-2, 1), (3, 1))
        self.assertEqual(self.spanned(made, NIL), [(NIL, NIL, True, True)])
        self.assertEqual(self.spanned(made, ONE), [((-1, 1), (-1, 1), True, True), (ONE, ONE, True, True)])
        self.assertEqual(self.spanned(made, (2, 1)), [((-2, 1), (-2, 1), True, True), ((2, 1), (2, 1), True, True)])
        self.assertEqual(self.spanned(made, (5, 2)), [((5, 2), (5, 2), True, True)])
        self.assertEqual(self.spanned(made, (3, 1)), [((3, 1), (3, 1), True, True)])
        for value in ((-1, 1), (-1, HUGE), (HUGE * 3 + 1, HUGE), (4, 1)):
            self.assertEqual(self.spanned(made, value), [])

    def test_of_level_pieces(self):
        for first in (0, 7):
            for last in (0, 7):
                told = self.spanned(line(first, 0, 0, last), NIL)
                self.assertEqual(told, [(NIL, ONE, first == 0, last == 0)])
                self.assertEqual(len(self.spanned(line(first, 0, 0, last), (7, 1))), (first == 7) + (last == 7))

    def test_a_stair(self):
        made = picture(STAIR, (-1, 1), ONE)
        self.assertEqual(self.spanned(made, (-5, 1)), [((-1, 1), NIL, True, True)])
        self.assertEqual(self.spanned(made, (5, 1)), [(NIL, ONE, False, True)])
        self.assertEqual(self.spanned(mirrored(made), (5, 1)), [((-1, 1), NIL, True, False)])
        self.assertEqual(self.spanned(made, NIL), [])

    def test_what_is_only_neared_is_not_in(self):
        self.assertEqual(self.spanned(line(5, 0, 1, 5), NIL), [])
        self.assertEqual(self.spanned(line(5, 0, 1, 5), ONE), [])
        self.assertEqual(self.spanned(line(5, 0, 1, 5), (1, 2)), [((1, 2), (1, 2), True, True)])

    def test_a_lone_worth_parts_a_span(self):
        self.assertEqual(self.spanned(lone(3), NIL), [((-1, 1), NIL, True, False), (NIL, ONE, False, True)])
        self.assertEqual(self.spanned(lone(3), (3, 1)), [(NIL, NIL, True, True)])
        self.assertEqual(self.spanned(lone(0), NIL), [((-1, 1), ONE, True, True)])

    def test_over_places_that_are_not_needed(self):
        places = [pair(place) for place in range(5)]
        made = Picture(places, [NIL] * 5, [(NIL, NIL)] * 4)
        self.assertEqual(self.spanned(made, NIL), [(NIL, (4, 1), True, True)])
        made.worths[0] = made.worths[4] = ONE
        self.assertEqual(self.spanned(made, NIL), [(NIL, (4, 1), False, False)])
        made.worths[2] = ONE
        self.assertEqual(self.spanned(made, NIL), [(NIL, (2, 1), False, False), ((2, 1), (4, 1), False, False)])

    def test_beside_other_pieces(self):
        # From below up to 0 at 1, level from there, jumping away at 2 or not.
        for worth in (0, 4):
            for worth_at_one in (0, 4):
                made = Picture([NIL, ONE, (2, 1), (3, 1)], [(-1, 1), pair(worth_at_one), pair(worth), ONE],
                               [((-1, 1), ONE), (NIL, NIL), (NIL, ONE)])
                self.assertEqual(self.spanned(made, NIL), [(ONE, (2, 1), worth_at_one == 0, worth == 0)])

    def test_single_places_side_by_side(self):
        made = Picture([NIL, ONE, (2, 1)], [NIL] * 3, [(ONE, NIL), (ONE, NIL)])
        self.assertEqual(self.spanned(made, NIL), [(place, place, True, True) for place in (NIL, ONE, (2, 1))])
        self.assertEqual(self.spanned(made, ONE), [(NIL, ONE, False, False), (ONE, (2, 1), False, False)])

    def test_the_same_for_the_tidy_one(self):
        chance = random.Random(52)
        found = 0
        for turn in range(300):
            made = some_picture(chance)
            values = [pair(Fraction(chance.randint(-4, 4), 2)), chance.choice(made.worths),
                      chance.choice(made.pieces)[0]]
            for value in values:
                told = self.spanned(made, value)
                self.assertEqual(spans(tidy(made), value), told)
                found += len(told)
        self.assertGreater(found, 900)

    def test_of_programs(self):
        chance = random.Random(53)
        for turn in range(80):
            made = picture(bent_program(chance, 1), (-3, 1), (3, 1))
            for value in (NIL, chance.choice(made.worths), chance.choice(made.pieces)[0]):
                self.spanned(made, value)

    def test_numbers_of_any_size(self):
        made = Picture([NIL, (HUGE, 1)], [NIL, (1, HUGE)], [(NIL, pair(Fraction(1, HUGE ** 2)))])
        self.assertEqual(self.spanned(made, pair(Fraction(1, HUGE ** 2))), [(ONE, ONE, True, True)])


class TestArea(Checked):
    """[17]."""

    def cut(self, made, at):
        """The same picture as two, up to a place of it and from there."""
        places, worths, pieces = fields(made)
        return (Picture(places[:at + 1], worths[:at + 1], pieces[:at]), Picture(places[at:], worths[at:], pieces[at:]))

    def test_above_and_below(self):
        self.assertEqual(area(line(0, 0, 1, 1)), (1, 2))
        self.assertEqual(area(line(0, 0, -1, 1)), (-1, 2))
        self.assertEqual(area(line(0, -1, 2, 1)), NIL)
        self.assertEqual(area(line(0, 3, 0, 1)), (3, 1))
        self.assertEqual(area(line(0, (1), -3, 1)), (-1, 2))
        self.assertEqual(area(picture(FOLD, (-2, 1), (3, 1))), (13, 2))
        self.assertEqual(area(picture(STAIR, (-1, 1), (3, 1))), (10, 1))

    def test_single_worths_count_nothing(self):
        for worth in (0, 1, -7, Fraction(1, 3)):
            self.assertEqual(area(lone(worth, 2)), (4, 1))
            self.assertEqual(area(line(worth, 0, 1, -worth)), (1, 2))

    def test_at_random(self):
        chance = random.Random(54)
        for turn in range(200):
            made, other = some_picture(chance), some_picture(chance)
            wanted = Fraction(0)
            for low, high in zip(map(frac, made.places), map(frac, made.places[1:])):
                third = (high - low) / 3
                wanted += (told_at(made, low + third) + told_at(made, high - third)) * (high - low) / 2
            self.assertEqual(area(made), pair(wanted))
            self.is_number(area(made))
            self.assertEqual(area(tidy(made)), pair(wanted))
            self.assertEqual(area(mirrored(made)), pair(wanted))
            self.assertEqual(area(scaled(made, (-2, 3))), pair(wanted * Fraction(-2, 3)))
            self.assertEqual(frac(area(together(made, other))), wanted + frac(area(other)))
            for at in range(1, len(made.pieces)):
                one, two = self.cut(made, at)
                self.assertEqual(frac(area(one)) + frac(area(two)), wanted)

    def test_cut_anywhere(self):
        chance = random.Random(55)
        for turn in range(60):
            program = bent_program(chance, 1)
            whole = frac(area(picture(program, (-3, 1), (3, 1))))
            at = pair(Fraction(chance.randint(-29, 29), 10))
            parts = [area(picture(program, (-3, 1), at)), area(picture(program, at, (3, 1)))]
            self.assertEqual(sum(map(frac, parts)), whole)

    def test_tents(self):
        for many in range(1, 9):
            program = (1, [IN, ("turns", min(many, 6), 0, TENT), ("turns", max(many - 6, 0), 1, TENT)])
            self.assertEqual(area(picture(program, NIL, ONE)), (1, 2))

    def test_numbers_of_any_size(self):
        made = Picture([NIL, (HUGE, 1)], [NIL, NIL], [((1, HUGE), NIL)])
        self.assertEqual(area(made), ONE)
        made = Picture([NIL, (1, HUGE)], [NIL, NIL], [(NIL, (HUGE, 1))])
        self.assertEqual(area(made), (1, 2 * HUGE))


class TestRefusals(unittest.TestCase):
    def test_no_picture(self):
        for bad in bad_pictures(Picture):
            for act in (least, greatest, area, lambda made: spans(made, NIL), lambda made: spans(made, None)):
                with self.assertRaises(BadPicture):
                    act(bad)

    def test_no_number(self):
        for bad in NOT_NUMBERS:
            with self.assertRaises(BadNumber):
                spans(lone(0), bad)


class TestNothingKept(unittest.TestCase):
    ACTS = [least, greatest, area, lambda made: spans(made, NIL), lambda made: spans(made, ONE)]

    def test_nothing_handed_in_is_changed(self):
        for act in self.ACTS:
            made = lone(3)
            act(made)
            self.assertEqual(fields(made), fields(lone(3)))

    def test_spans_told_are_the_askers_own(self):
        made = lone(3)
        first, second = spans(made, NIL), spans(made, NIL)
        wanted = copy.deepcopy(second)
        first.clear()
        self.assertEqual(second, wanted)
        self.assertEqual(spans(made, NIL), wanted)

    def test_numbers_told_are_new(self):
        made = Picture([NIL, ONE, (2, 1)], [(3, 1), (4, 1), (5, 1)], [((6, 1), NIL), ((7, 1), ONE)])
        held = made.places + made.worths + [number for piece in made.pieces for number in piece]
        for told in (least(made), greatest(made), least(line(5, 0, 1, 5))):
            for number in (told.value, told.place):
                self.assertFalse(any(number is other for other in held))
        for value in [*made.worths, (6, 1)]:
            for span in spans(made, value):
                self.assertFalse(any(number is other for number in span[:2] for other in [*held, value]))


if __name__ == "__main__":
    unittest.main()

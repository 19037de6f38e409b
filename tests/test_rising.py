"""bendwright/finding.py: promises [1], [18] and [19]."""

import copy
import random
import unittest
from fractions import Fraction

from bendwright.errors import BadPicture, NoBack
from bendwright.finding import Falls, Rising, backwards, jumps, rising
from bendwright.mixing import Answer
from bendwright.pictures import Picture, mirrored, picture, scaled, tidy
from tests.drawing import cells, fields, is_tidy, limit_at, some_picture, stretched, told_at, unbroken_picture
from tests.reckoning import bent_program, frac, pair
from tests.wrong import bad_pictures

IN = ("in", 0)
HUGE = 10 ** 3000
NIL = (0, 1)
ONE = (1, 1)
FOLD = (1, [IN, ("by", (-1, 1), 0), ("most", 0, 1)])
STAIR = (1, [IN, ("is", (-5, 1)), ("is", (5, 1)), ("if", 0, 1, 2)])


def line(first, worth, slope, last):
    """A picture from 0 to 1 with worths of their own at its ends."""
    return Picture([NIL, ONE], [pair(first), pair(last)], [(pair(worth), pair(slope))])


def bend(first, worth, second):
    """A picture from 0 to 2 of two pieces, each a worth and a slope, with a worth of its own at 1."""
    end = second[0] + second[1]
    pieces = [(pair(part), pair(slope)) for part, slope in (first, second)]
    return Picture([NIL, ONE, (2, 1)], [pair(first[0]), pair(worth), pair(end)], pieces)


RISE = [
    line(0, 0, 1, 1), line(-1, 0, 1, 2), line(0, 0, Fraction(1, HUGE), 1), bend((0, 1), 1, (1, 2)),
    bend((0, 1), 1, (1, 1)), bend((0, 1), 1, (2, 1)), bend((0, 1), 2, (2, 1)), bend((0, 1), 2, (3, 1)),
]
FALL = [
    line(0, 0, 0, 0), line(0, 0, 0, 1), line(0, 0, -1, -1), line(0, 1, -1, 1), line(1, 0, 1, 1), line(2, 0, 1, 3),
    line(-1, 0, 1, 0), line(Fraction(1, HUGE), 0, 1, 1), line(0, 0, 1, Fraction(HUGE - 1, HUGE)),
    bend((0, 1), 1, (1, 0)), bend((0, 0), 0, (0, 1)), bend((0, 1), 1, (1, -1)), bend((0, 1), 1, (0, 1)),
    bend((0, 1), Fraction(1, 2), (1, 1)), bend((0, 1), 0, (2, 1)), bend((0, 1), 3, (2, 1)), bend((0, 1), 3, (1, 1)),
    bend((0, 1), 1, (Fraction(HUGE - 1, HUGE), 1)), bend((5, 1), 6, (0, 1)),
]


class TestRising(unittest.TestCase):
    """[18]."""

    def rises(self, made):
        told = rising(made)
        self.assertIs(type(told), Rising)
        self.assertIs(told.shows(made), True)
        spots = cells(made)
        for one in spots:
            for other in spots:
                self.assertIs(Falls(pair(one), pair(other)).shows(made), False)

    def falls(self, made):
        told = rising(made)
        self.assertIs(type(told), Falls)
        for number in (told.one, told.other):
            self.assertIs(type(number), tuple)
            self.assertEqual(number, pair(frac(number)))
        one, other = frac(told.one), frac(told.other)
        self.assertTrue(frac(made.places[0]) <= one < other <= frac(made.places[-1]))
        self.assertLessEqual(told_at(made, other), told_at(made, one))
        self.assertIs(told.shows(made), True)
        self.assertIs(Rising().shows(made), False)

    def test_those_that_rise(self):
        for made in RISE:
            self.rises(made)

    def test_those_that_fall(self):
        for made in FALL:
            self.falls(made)

    def test_of_programs(self):
        self.falls(picture(FOLD, (-1, 1), ONE))
        self.rises(picture(FOLD, NIL, ONE))
        self.falls(picture(FOLD, (-1, HUGE), ONE))
        self.falls(picture(STAIR, (-1, 1), ONE))
        steps = STAIR[1] + [("sum", 0, 3)]
        self.rises(picture((1, steps), (-1, 1), ONE))
        self.falls(picture((1, steps[:3] + [("if", 0, 2, 1), ("sum", 0, 3)]), (-9, 1), (9, 1)))

    def test_many_pieces_and_one_that_falls(self):
        places = [pair(place) for place in range(41)]
        for at in range(1, 41):
            made = stretched(places, [pair(place * place) for place in range(41)])
            self.assertIs(type(rising(made)), Rising)
            made.pieces[at - 1] = (made.pieces[at - 1][0], NIL)
            self.falls(made)
            made = stretched(places, [pair(place * place) for place in range(41)])
            made.worths[at] = pair(at * at - Fraction(1, HUGE))
            self.falls(made)

    def test_at_random(self):
        chance = random.Random(61)
        seen = {Rising: 0, Falls: 0}
        for turn in range(500):
            made = unbroken_picture(chance, [1, 2, 3] if turn % 3 else [1, 2, 5, 0, -1])
            if turn % 2:
                at = chance.randrange(len(made.worths))
                made.worths[at] = pair(frac(made.worths[at]) + Fraction(chance.randint(-1, 1), 7))
            if turn % 5 == 0:
                at = chance.randrange(len(made.pieces))
                worth, slope = made.pieces[at]
                made.pieces[at] = (pair(frac(worth) + Fraction(chance.randint(-1, 1), 9)), slope)
            # Just beside each place, too, so that the least jump down is seen.
            spots = {frac(place) for place in made.places}
            spots |= {place + way for place in spots for way in (Fraction(1, 10 ** 4), Fraction(-1, 10 ** 4))}
            spots = sorted([place for place in spots if frac(made.places[0]) <= place <= frac(made.places[-1])])
            found = [told_at(made, place) for place in spots]
            wanted = Rising if all(one < other for one, other in zip(found, found[1:])) else Falls
            seen[wanted] += 1
            self.rises(made) if wanted is Rising else self.falls(made)
            self.assertIs(type(rising(tidy(made))), wanted)
        self.assertGreater(min(seen.values()), 100)

    def test_the_classes(self):
        self.assertEqual((Rising.__bases__, Falls.__bases__), ((Answer,), (Answer,)))
        for made in (Rising, Falls):
            self.assertIn("shows", vars(made))
        self.assertEqual(vars(Falls(ONE, NIL)), {"one": ONE, "other": NIL})

    def test_falls_by_its_fields_as_they_stand(self):
        made = picture(FOLD, (-1, 1), (2, 1))
        told = rising(made)
        for one, other, wanted in (
            ((-1, 1), NIL, True), ((-1, 1), ONE, True), ((-1, 1), pair(Fraction(HUGE + 1, HUGE)), False),
            ((-1, 2), (1, 2), True), ((-1, 2), (1, 3), True), ((-1, 2), (2, 3), False), (NIL, ONE, False),
            (NIL, (-1, 1), False), (ONE, (-1, 1), False), ((-1, 1), (-1, 1), False), (NIL, NIL, False),
            ((2, 1), (2, 1), False), ((-2, 1), NIL, False), ((-2, 1), (-1, 1), False), ((-1, 1), (3, 1), False),
            ((-3, 1), (-2, 1), False), ((3, 1), (4, 1), False), ((2, 1), (3, 1), False), ((-2, 1), (3, 1), False),
            (pair(Fraction(-HUGE - 1, HUGE)), NIL, False), ((-HUGE, 1), (HUGE, 1), False),
        ):
            told.one, told.other = one, other
            self.assertIs(told.shows(made), wanted, (one, other))
            self.assertIs(Falls(one, other).shows(made), wanted)

    def test_shows_by_the_picture_as_it_stands(self):
        made = line(0, 0, 1, 1)
        told = rising(made)
        made.worths[1] = NIL
        self.assertIs(told.shows(made), False)
        self.assertIs(Falls(NIL, ONE).shows(made), True)
        self.assertIs(Falls((1, 2), ONE).shows(made), True)


class TestJumps(unittest.TestCase):
    """[19]."""

    def jumping(self, made, *places):
        told = jumps(made)
        self.assertIs(type(told), list)
        self.assertEqual(told, list(places))
        for place in told:
            self.assertIs(type(place), tuple)

    def test_each_kind(self):
        self.jumping(bend((0, 1), 1, (1, 5)))
        self.jumping(bend((0, 1), 2, (2, 5)), ONE)
        self.jumping(bend((0, 1), 1, (2, 5)), ONE)
        self.jumping(bend((0, 1), 2, (1, 5)), ONE)
        self.jumping(bend((0, 1), 2, (1, 1)), ONE)
        self.jumping(bend((0, 1), 2, (3, 1)), ONE)
        self.jumping(bend((0, 1), 1 + Fraction(1, HUGE), (1, 1)), ONE)

    def test_at_ends(self):
        self.jumping(line(0, 0, 1, 1))
        self.jumping(line(1, 0, 1, 1), NIL)
        self.jumping(line(0, 0, 1, 0), ONE)
        self.jumping(line(3, 0, 1, 3), NIL, ONE)

    def test_of_programs(self):
        self.jumping(picture(FOLD, (-1, 1), ONE))
        self.jumping(picture(STAIR, (-1, 1), ONE), NIL)
        self.jumping(picture(STAIR, NIL, ONE), NIL)
        self.jumping(picture(STAIR, (-1, 1), NIL))
        body = [IN, ("sum", 0, 0), ("is", (-1, 1)), ("sum", 1, 2), ("by", (-1, 1), 3), ("if", 4, 3, 1)]
        told = picture((1, [IN, ("turns", 6, 0, body), ("turns", 2, 1, body)]), NIL, (255, 256))
        self.jumping(told, *[pair(Fraction(at, 256)) for at in range(1, 256)])

    def test_at_random(self):
        chance = random.Random(62)
        for turn in range(300):
            made = some_picture(chance) if turn % 2 else picture(bent_program(chance, 1), (-3, 1), (3, 1))
            wanted = []
            for place in map(frac, made.places):
                ends = [limit_at(made, place, way) for way in (-1, 1)]
                if any(end is not None and end[0] != told_at(made, place) for end in ends):
                    wanted.append(pair(place))
            self.jumping(made, *wanted)
            self.jumping(tidy(made), *wanted)
            self.jumping(mirrored(made), *[pair(-frac(place)) for place in reversed(wanted)])

    def test_the_list_is_the_askers_own(self):
        made = line(3, 0, 1, 3)
        first = jumps(made)
        self.assertIsNot(first[0], made.places[0])
        first.clear()
        self.jumping(made, NIL, ONE)


class TestBackwards(unittest.TestCase):
    """[19]."""

    def back(self, made):
        told = backwards(made)
        self.assertIs(type(told), Picture)
        self.assertTrue(is_tidy(told))
        for place in cells(made):
            self.assertEqual(told_at(told, told_at(made, place)), place)
        self.assertEqual([told.places[0], told.places[-1]], [made.worths[0], made.worths[-1]])
        for worth in cells(told):
            self.assertEqual(told_at(made, told_at(told, worth)), worth)
        self.assertEqual(jumps(told), [])
        self.assertIs(type(rising(told)), Rising)
        self.assertEqual(fields(backwards(told)), fields(tidy(made)))
        return told

    def test_of_one_piece(self):
        self.assertEqual(fields(self.back(line(0, 0, 1, 1))), ([NIL, ONE], [NIL, ONE], [(NIL, ONE)]))
        told = self.back(Picture([(1, 2), ONE], [(-3, 1), (-2, 1)], [((-3, 1), (2, 1))]))
        self.assertEqual(fields(told), ([(-3, 1), (-2, 1)], [(1, 2), ONE], [((1, 2), (1, 2))]))

    def test_of_several(self):
        told = self.back(bend((0, 1), 1, (1, Fraction(1, 3))))
        self.assertEqual(fields(told), ([NIL, ONE, (4, 3)], [NIL, ONE, (2, 1)], [(NIL, ONE), (ONE, (3, 1))]))

    def test_places_that_are_not_needed(self):
        told = self.back(bend((0, 2), 2, (2, 2)))
        self.assertEqual(fields(told), ([NIL, (4, 1)], [NIL, (2, 1)], [(NIL, (1, 2))]))

    def test_many_pieces(self):
        places = [pair(place) for place in range(301)]
        told = self.back(stretched(places, [pair(place * place) for place in range(301)]))
        self.assertEqual(told.places, [pair(place * place) for place in range(301)])
        self.assertEqual(told.worths, places)

    def test_numbers_of_any_size(self):
        told = self.back(stretched([NIL, (HUGE, 1), (HUGE + 1, 1)], [(-HUGE, 1), NIL, (1, HUGE)]))
        self.assertEqual(told.pieces, [(NIL, ONE), ((HUGE, 1), (HUGE, 1))])

    def test_at_random(self):
        chance = random.Random(63)
        for turn in range(200):
            self.back(unbroken_picture(chance, [1, 2, 3, Fraction(1, 4)]))

    def test_none(self):
        jumpy = [made for made in RISE if jumps(made)]
        self.assertEqual(len(jumpy), 5)
        for made in FALL + jumpy:
            with self.assertRaises(NoBack):
                backwards(made)
        for made in RISE:
            if not jumps(made):
                self.back(made)
                with self.assertRaises(NoBack):
                    backwards(mirrored(made))
                with self.assertRaises(NoBack):
                    backwards(scaled(made, NIL))


class TestRefusals(unittest.TestCase):
    def test_no_picture(self):
        for bad in bad_pictures(Picture):
            for act in (rising, jumps, backwards):
                with self.assertRaises(BadPicture):
                    act(bad)

    def test_a_bad_one_that_falls_is_refused_as_none(self):
        for made in FALL:
            bad = Picture(made.places, made.worths, made.pieces + made.pieces[:1])
            with self.assertRaises(BadPicture):
                backwards(bad)


class TestNothingKept(unittest.TestCase):
    def test_nothing_handed_in_is_changed(self):
        for act in (rising, jumps, Rising().shows, Falls(NIL, ONE).shows):
            for made in RISE + FALL:
                wanted = copy.deepcopy(fields(made))
                act(made)
                self.assertEqual(fields(made), wanted)
        made = bend((0, 2), 2, (2, 2))
        backwards(made)
        self.assertEqual(fields(made), fields(bend((0, 2), 2, (2, 2))))

    def test_what_is_told_is_new(self):
        made = bend((0, 2), 2, (2, 3))
        first, second = backwards(made), backwards(made)
        wanted = copy.deepcopy(fields(second))
        for told in (made, first):
            for field in fields(told):
                field.clear()
        self.assertEqual(fields(second), wanted)

    def test_numbers_told_are_new(self):
        made = bend((0, 2), 2, (2, 3))
        told = backwards(made)
        held = made.places + made.worths + [number for piece in made.pieces for number in piece]
        for number in told.places + told.worths + [piece[0] for piece in told.pieces]:
            self.assertFalse(any(number is other for other in held))
        for made in FALL:
            told = rising(made)
            self.assertFalse(any(number is other for number in (told.one, told.other) for other in made.places))


if __name__ == "__main__":
    unittest.main()

"""bendwright/mixing.py: promises [1], [13] with two pictures, and [14]."""

import copy
import random
import unittest
from fractions import Fraction

from bendwright.errors import BadPicture, Others
from bendwright.mixing import Alike, Answer, Differ, compared, greater, lesser, together
from bendwright.pictures import Picture, picture, scaled, tidy
from tests.drawing import fields, is_tidy, places_of, some_picture, told_at
from tests.reckoning import bent_program, frac, pair
from tests.wrong import bad_pictures

IN = ("in", 0)
HUGE = 10 ** 3000
NIL = (0, 1)
ONE = (1, 1)
FOLD = (1, [IN, ("by", (-1, 1), 0), ("most", 0, 1)])
STAIR = (1, [IN, ("is", (-5, 1)), ("is", (5, 1)), ("if", 0, 1, 2)])

JOINED = [(together, lambda a, b: a + b), (lesser, min), (greater, max)]


def level(worth, low=-1, high=1):
    """A picture that is level."""
    return Picture([pair(low), pair(high)], [pair(worth)] * 2, [(pair(worth), NIL)])


def checked_places(*pictures):
    """Places of all pictures, between them and beside where their pieces cross, rising."""
    spots = sorted({place for made in pictures for place in map(frac, made.places)})
    found = set(spots)
    for low, high in zip(spots, spots[1:]):
        for part in (1, 10, 333, 500, 750, 999):
            found.add(low + (high - low) * Fraction(part, 1000))
        one, two = [[told_at(made, low + (high - low) * part) for part in (Fraction(1, 4), Fraction(1, 2))]
                    for made in pictures[:2]]
        at_quarter, at_half = one[0] - two[0], one[1] - two[1]
        if at_quarter != at_half:
            cross = low + (high - low) * (Fraction(1, 4) + at_quarter / (at_quarter - at_half) / 4)
            beside = (high - low) / 10 ** 6
            found.update(place for place in (cross - beside, cross, cross + beside) if low < place < high)
    return sorted(found)


class Checked(unittest.TestCase):
    def joined(self, one, other):
        """Each of the three, both ways round, at all kinds of places."""
        for act, wanted in JOINED:
            told = act(one, other)
            self.assertIs(type(told), Picture)
            self.assertTrue(is_tidy(told))
            self.assertEqual(fields(act(other, one)), fields(told))
            self.assertEqual(fields(tidy(told)), fields(told))
            for place in checked_places(one, other, told):
                self.assertEqual(told_at(told, place), wanted(told_at(one, place), told_at(other, place)))


class TestJoined(Checked):
    def test_lines_that_cross(self):
        one = Picture([NIL, (3, 1)], [NIL, (3, 1)], [(NIL, ONE)])
        other = Picture([NIL, (3, 1)], [(2, 1), (-4, 1)], [((2, 1), (-2, 1))])
        self.assertEqual(fields(together(one, other)), ([NIL, (3, 1)], [(2, 1), (-1, 1)], [((2, 1), (-1, 1))]))
        self.assertEqual(fields(lesser(one, other)), (
            [NIL, (2, 3), (3, 1)], [NIL, (2, 3), (-4, 1)], [(NIL, ONE), ((2, 3), (-2, 1))],
        ))
        self.assertEqual(fields(greater(one, other)), (
            [NIL, (2, 3), (3, 1)], [(2, 1), (2, 3), (3, 1)], [((2, 1), (-2, 1)), ((2, 3), ONE)],
        ))
        self.joined(one, other)

    def test_lines_that_meet_at_an_end(self):
        one = Picture([NIL, ONE], [NIL, ONE], [(NIL, ONE)])
        for other in (level(0, 0, 1), level(1, 0, 1), Picture([NIL, ONE], [NIL, (2, 1)], [(NIL, (2, 1))])):
            self.joined(one, other)
            for act in (lesser, greater):
                self.assertEqual(len(act(one, other).places), 2)

    def test_ends_of_their_own(self):
        one = Picture([NIL, ONE], [(9, 1), (-9, 1)], [(NIL, ONE)])
        self.joined(one, level(0, 0, 1))
        self.assertEqual(lesser(one, level(0, 0, 1)).worths, [NIL, (-9, 1)])
        self.assertEqual(greater(one, level(0, 0, 1)).worths, [(9, 1), NIL])

    def test_they_jump_past_each_other(self):
        self.joined(picture(STAIR, (-1, 1), ONE), level(0))
        self.joined(picture(STAIR, (-1, 1), ONE), scaled(picture(STAIR, (-1, 1), ONE), (-1, 1)))
        self.joined(picture(STAIR, (-1, 1), ONE), picture(FOLD, (-1, 1), ONE))

    def test_what_falls_away_when_put_together(self):
        one = picture(FOLD, (-1, 1), ONE)
        self.assertEqual(fields(together(one, scaled(one, (-1, 1)))), fields(level(0)))
        stair = picture(STAIR, (-1, 1), ONE)
        self.assertEqual(fields(together(stair, scaled(stair, (-1, 1)))), fields(level(0)))

    def test_with_itself(self):
        for one in (picture(FOLD, (-1, 1), ONE), picture(STAIR, (-1, 1), ONE), some_picture(random.Random(1))):
            self.assertEqual(fields(together(one, one)), fields(scaled(one, (2, 1))))
            self.assertEqual(fields(lesser(one, one)), fields(tidy(one)))
            self.assertEqual(fields(greater(one, one)), fields(tidy(one)))

    def test_a_lone_worth_at_a_crossing(self):
        one = Picture([(-1, 1), NIL, ONE], [(-1, 1), (9, 1), ONE], [((-1, 1), ONE), (NIL, ONE)])
        self.joined(one, level(0))
        self.assertEqual(lesser(one, level(0)).worths, [(-1, 1), NIL, NIL])
        self.assertEqual(greater(one, level(0)).worths, [NIL, (9, 1), ONE])

    def test_those_that_are_not_tidy(self):
        parted = Picture([(-1, 1), NIL, (1, 3), ONE], [ONE] * 4, [(ONE, NIL)] * 3)
        for act, wanted in JOINED:
            self.assertEqual(fields(act(parted, level(2))), fields(level(wanted(1, 2))))

    def test_numbers_of_any_size(self):
        one = Picture([NIL, (HUGE, 1)], [NIL, (HUGE, 1)], [(NIL, ONE)])
        self.assertEqual(lesser(one, level(Fraction(1, HUGE), 0, HUGE)).places, [NIL, (1, HUGE), (HUGE, 1)])

    def test_at_random(self):
        chance = random.Random(41)
        for turn in range(150):
            self.joined(some_picture(chance), some_picture(chance))

    def test_of_programs(self):
        chance = random.Random(42)
        for turn in range(60):
            one, other = bent_program(chance, 1), bent_program(chance, 1)
            self.joined(picture(one, (-3, 1), (3, 1)), picture(other, (-3, 1), (3, 1)))

    def test_as_programs(self):
        line = (1, [IN, ("by", (1, 2), 0), ("is", (1, 3)), ("sum", 1, 2)])
        steps = FOLD[1] + [("by", (1, 2), 0), ("is", (1, 3)), ("sum", 3, 4)]
        for act, word in ((together, "sum"), (lesser, "least"), (greater, "most")):
            wanted = picture((1, steps + [(word, 2, 5)]), (-2, 1), (2, 1))
            told = act(picture(FOLD, (-2, 1), (2, 1)), picture(line, (-2, 1), (2, 1)))
            self.assertEqual(fields(told), fields(wanted))


class TestCompared(unittest.TestCase):
    BASE = ([(-1, 1), NIL, ONE], [ONE, (5, 1), (2, 1)], [(ONE, ONE), ((3, 1), NIL)])

    def alike(self, one, other):
        for left, right in ((one, other), (other, one)):
            told = compared(left, right)
            self.assertIs(type(told), Alike)
            self.assertIs(told.shows(left, right), True)
            for place in places_of(one):
                self.assertIs(Differ(pair(place)).shows(left, right), False)

    def differ(self, one, other, low, high):
        for left, right in ((one, other), (other, one)):
            told = compared(left, right)
            self.assertIs(type(told), Differ)
            self.assertEqual(told.place, pair(frac(told.place)))
            self.assertIs(type(told.place), tuple)
            self.assertTrue(low <= frac(told.place) <= high)
            self.assertNotEqual(told_at(left, frac(told.place)), told_at(right, frac(told.place)))
            self.assertIs(told.shows(left, right), True)
            self.assertIs(Alike().shows(left, right), False)

    def changed(self, field, at, value):
        parts = copy.deepcopy(self.BASE)
        parts[field][at] = value
        return Picture(*parts)

    def test_the_same(self):
        self.alike(Picture(*self.BASE), Picture(*self.BASE))
        made = Picture(*self.BASE)
        self.alike(made, made)

    def test_one_is_not_tidy(self):
        places = [(-1, 1), (-1, 2), NIL, (1, 3), (1, 2), ONE]
        parted = Picture(
            places, [ONE, (3, 2), (5, 1), (3, 1), (3, 1), (2, 1)],
            [(ONE, ONE), ((3, 2), ONE), ((3, 1), NIL), ((3, 1), NIL), ((3, 1), NIL)],
        )
        self.alike(Picture(*self.BASE), parted)
        parted.worths[3] = (4, 1)
        self.differ(Picture(*self.BASE), parted, Fraction(1, 3), Fraction(1, 3))

    def test_only_at_one_place(self):
        self.differ(Picture(*self.BASE), self.changed(1, 1, (6, 1)), 0, 0)
        self.differ(Picture(*self.BASE), self.changed(1, 1, (HUGE * 5 + 1, HUGE)), 0, 0)

    def test_only_at_an_end(self):
        self.differ(Picture(*self.BASE), self.changed(1, 0, (6, 1)), -1, -1)
        self.differ(Picture(*self.BASE), self.changed(1, 2, (6, 1)), 1, 1)

    def test_only_within_one_piece(self):
        made = Picture(*self.BASE)
        self.differ(made, self.changed(2, 0, ((1, 1), (3, 1))), Fraction(-999, 1000), Fraction(-1, 1000))
        self.differ(made, self.changed(2, 0, ((2, 1), ONE)), Fraction(-999, 1000), Fraction(-1, 1000))
        self.differ(made, self.changed(2, 1, ((2, 1), ONE)), Fraction(1, 1000), Fraction(999, 1000))
        self.differ(made, self.changed(2, 1, ((4, 1), (-1, 1))), Fraction(1, 1000), Fraction(999, 1000))

    def test_pieces_that_cross_anywhere(self):
        for at in range(1, 16):
            cross = Fraction(at, 16)
            line = Picture([NIL, ONE], [NIL, NIL], [(pair(-cross), ONE)])
            self.differ(line, level(0, 0, 1), Fraction(1, 1000), Fraction(999, 1000))

    def test_at_random(self):
        chance = random.Random(43)
        seen = {Alike: 0, Differ: 0}
        for turn in range(250):
            one = some_picture(chance)
            other = tidy(one) if turn % 3 == 0 else some_picture(chance)
            if turn % 3 == 1:
                other = Picture(*fields(one))
                at = chance.randrange(len(other.pieces))
                other.pieces[at] = (other.pieces[at][0], pair(chance.randint(-2, 2)))
            same = all(told_at(one, place) == told_at(other, place) for place in checked_places(one, other))
            seen[type(compared(one, other))] += 1
            if same:
                self.alike(one, other)
            else:
                self.differ(one, other, -3, 3)
        self.assertGreater(min(seen.values()), 50)

    def test_by_programs(self):
        chance = random.Random(44)
        for turn in range(40):
            made = picture(bent_program(chance, 1), (-3, 1), (3, 1))
            self.alike(made, scaled(scaled(made, (-3, 1)), (-1, 3)))


class TestAnswers(unittest.TestCase):
    def test_the_classes(self):
        self.assertEqual((Alike.__bases__, Differ.__bases__, Answer.__bases__), ((Answer,), (Answer,), (object,)))
        for made in (Alike, Differ):
            self.assertIn("shows", vars(made))
        self.assertEqual(Differ((3, 1)).place, (3, 1))

    def test_differ_by_its_field_as_it_stands(self):
        one, other = picture(FOLD, (-1, 1), ONE), picture((1, [IN]), (-1, 1), ONE)
        told = compared(one, other)
        for place, wanted in (
            ((-1, 1), True), ((-1, HUGE), True), (NIL, False), ((1, HUGE), False), (ONE, False),
            ((2, 1), False), ((-2, 1), False), ((-HUGE - 1, HUGE), False), ((HUGE + 1, HUGE), False),
        ):
            told.place = place
            self.assertIs(told.shows(one, other), wanted)
            self.assertIs(told.shows(other, one), wanted)

    def test_shows_by_the_pictures_as_they_stand(self):
        one, other = picture(FOLD, NIL, ONE), picture((1, [IN]), NIL, ONE)
        self.assertIs(Alike().shows(one, other), True)
        self.assertIs(Differ(ONE).shows(one, other), False)
        other.worths[1] = (7, 1)
        self.assertIs(Alike().shows(one, other), False)
        self.assertIs(Differ(ONE).shows(one, other), True)

    def test_pictures_over_unlike_stretches_are_not_alike(self):
        for low, high in ((-1, 2), (0, 1), (-2, 1), (2, 3)):
            self.assertIs(Alike().shows(level(0), level(0, low, high)), False)

    def test_differ_of_unlike_stretches_is_shown_within_both(self):
        for place, wanted in (((-1, 2), False), (NIL, True), ((1, 2), True), (ONE, True), ((3, 2), False)):
            for one, other in ((level(0, -1, 1), level(5, 0, 2)), (level(0, 0, 2), level(5, -1, 1))):
                self.assertIs(Differ(place).shows(one, other), wanted)
            self.assertIs(Differ(place).shows(level(5, -1, 1), level(5, 0, 2)), False)


class TestRefusals(unittest.TestCase):
    ACTS = (together, lesser, greater, compared)

    def refused(self, error, one, other):
        for act in self.ACTS:
            with self.assertRaises(error):
                act(one, other)

    def test_no_picture(self):
        for bad in bad_pictures(Picture):
            self.refused(BadPicture, bad, level(0))
            self.refused(BadPicture, level(0), bad)

    def test_unlike_stretches(self):
        for low, high in ((-1, 2), (0, 1), (-2, 1), (2, 3), (-1, Fraction(HUGE + 1, HUGE))):
            self.refused(Others, level(0), level(0, low, high))
            self.refused(Others, level(0, low, high), level(0))

    def test_a_bad_one_is_refused_first(self):
        bad = level(0, 5, 6)
        bad.worths = [NIL]
        self.refused(BadPicture, level(0), bad)
        self.refused(BadPicture, bad, level(0))


class TestNothingKept(unittest.TestCase):
    def made(self):
        return [
            Picture([(-1, 1), NIL, ONE], [ONE, (5, 1), (2, 1)], [(ONE, ONE), ((3, 1), NIL)]),
            Picture([(-1, 1), (1, 2), ONE], [ONE, ONE, ONE], [(ONE, NIL), (ONE, NIL)]),
        ]

    def test_nothing_handed_in_is_changed(self):
        for act in (together, lesser, greater, compared, Alike().shows, Differ(NIL).shows):
            one, other = self.made()
            act(one, other)
            self.assertEqual([fields(one), fields(other)], [fields(made) for made in self.made()])

    def test_what_is_told_is_new(self):
        for act in (together, lesser, greater):
            one, other = self.made()
            first, second = act(one, other), act(one, other)
            wanted = copy.deepcopy(fields(second))
            for told in (one, other, first):
                for field in fields(told):
                    field.clear()
            self.assertEqual(fields(second), wanted)

    def test_the_place_told_is_new(self):
        one, other = self.made()
        other.worths[0] = (7, 1)
        told = compared(one, other)
        self.assertEqual(told.place, (-1, 1))
        self.assertIsNot(told.place, one.places[0])
        self.assertIsNot(told.place, other.places[0])


if __name__ == "__main__":
    unittest.main()

"""bendwright/pictures.py: promises [1], [10], [11], [12] and the part of [13] with one picture."""

import copy
import random
import unittest
from fractions import Fraction

from bendwright.errors import BadPicture, BadPlaces, BadProgram, BadStretch, Others
from bendwright.pictures import Picture, limits, mirrored, picture, scaled, tidy, worth_at
from bendwright.turning import behind, shortened, unrolled
from tests.drawing import fields, is_tidy, places_of, some_picture, told_at
from tests.reckoning import bent_program, frac, pair, picture_of, some_program, worth_of
from tests.wrong import BAD_PROGRAMS, NOT_NUMBERS, bad_pictures

IN = ("in", 0)
HUGE = 10 ** 3000
NIL = (0, 1)
ONE = (1, 1)
FOLD = (1, [IN, ("by", (-1, 1), 0), ("most", 0, 1)])
TENT = [IN, ("by", (-1, 1), 0), ("is", ONE), ("sum", 1, 2), ("least", 0, 3), ("by", (2, 1), 4)]
STAIR = (1, [IN, ("is", (-5, 1)), ("is", (5, 1)), ("if", 0, 1, 2)])
# 9 at 0 alone, else the place.
LONE = (1, [IN, ("by", (-1, 1), 0), ("most", 0, 1), ("is", (9, 1)), ("if", 2, 3, 0)])


class Checked(unittest.TestCase):
    def well_made(self, told):
        self.assertIs(type(told), Picture)
        self.assertEqual([type(field) for field in fields(told)], [list] * 3)
        for piece in told.pieces:
            self.assertIs(type(piece), tuple)
        for number in told.places + told.worths + [number for piece in told.pieces for number in piece]:
            self.assertIs(type(number), tuple)
            self.assertEqual(number, pair(frac(number)))
        self.assertTrue(is_tidy(told))

    def drawn(self, program, low, high, places, worths, pieces):
        told = picture(program, low, high)
        self.well_made(told)
        self.assertEqual(fields(told), (places, worths, pieces))

    def as_reckoned(self, program, low, high):
        self.drawn(program, low, high, *picture_of(program, low, high))


class TestPicture(Checked):
    def test_the_fields(self):
        told = Picture([NIL, ONE], [(2, 1), (3, 1)], [((4, 1), (5, 1))])
        self.assertEqual(fields(told), ([NIL, ONE], [(2, 1), (3, 1)], [((4, 1), (5, 1))]))

    def test_the_lists_are_copied(self):
        places, worths, pieces = [NIL, ONE], [(2, 1), (3, 1)], [((4, 1), (5, 1))]
        told = Picture(places, worths, pieces)
        for one, other in zip(fields(told), (places, worths, pieces)):
            self.assertIsNot(one, other)
            other.clear()
        self.assertEqual(fields(told), ([NIL, ONE], [(2, 1), (3, 1)], [((4, 1), (5, 1))]))


class TestOfAProgram(Checked):
    def test_one_that_goes_on(self):
        self.drawn((1, [("is", (2, 3))]), NIL, ONE, [NIL, ONE], [(2, 3), (2, 3)], [((2, 3), NIL)])
        self.drawn((1, [IN, ("by", (-2, 1), 0)]), ONE, (3, 2), [ONE, (3, 2)], [(-2, 1), (-3, 1)], [((-2, 1), (-2, 1))])

    def test_one_that_bends(self):
        places = [(-2, 1), NIL, (3, 1)]
        pieces = [((2, 1), (-1, 1)), (NIL, ONE)]
        self.drawn(FOLD, (-2, 1), (3, 1), places, [(2, 1), NIL, (3, 1)], pieces)
        self.drawn(FOLD, NIL, (3, 1), [NIL, (3, 1)], [NIL, (3, 1)], [(NIL, ONE)])
        self.drawn(FOLD, (-2, 1), NIL, [(-2, 1), NIL], [(2, 1), NIL], [((2, 1), (-1, 1))])

    def test_one_that_jumps(self):
        places = [(-1, 1), NIL, (2, 1)]
        pieces = [((-5, 1), NIL), ((5, 1), NIL)]
        self.drawn(STAIR, (-1, 1), (2, 1), places, [(-5, 1), (-5, 1), (5, 1)], pieces)
        over = (1, STAIR[1] + [("by", (-1, 1), 0), ("if", 4, 2, 1)])
        self.drawn(over, (-1, 1), (2, 1), places, [(-5, 1), (5, 1), (5, 1)], pieces)

    def test_one_that_jumps_at_an_end(self):
        self.drawn(STAIR, NIL, (2, 1), [NIL, (2, 1)], [(-5, 1), (5, 1)], [((5, 1), NIL)])
        self.drawn(STAIR, (-2, 1), NIL, [(-2, 1), NIL], [(-5, 1), (-5, 1)], [((-5, 1), NIL)])
        self.drawn(LONE, NIL, ONE, [NIL, ONE], [(9, 1), ONE], [(NIL, ONE)])
        self.drawn(LONE, (-1, 1), NIL, [(-1, 1), NIL], [(-1, 1), (9, 1)], [((-1, 1), ONE)])

    def test_a_lone_worth(self):
        places = [(-1, 1), NIL, ONE]
        self.drawn(LONE, (-1, 1), ONE, places, [(-1, 1), (9, 1), ONE], [((-1, 1), ONE), (NIL, ONE)])
        same = (1, LONE[1][:3] + [("by", (3, 1), 0), ("if", 2, 3, 0)])
        self.drawn(same, (-1, 1), ONE, [(-1, 1), ONE], [(-1, 1), ONE], [((-1, 1), ONE)])

    def test_tents_in_turns(self):
        for many in range(1, 9):
            steps = [IN, ("turns", min(many, 6), 0, TENT), ("turns", max(many - 6, 0), 1, TENT)]
            pieces = 2 ** many
            self.drawn(
                (1, steps), NIL, ONE, [pair(Fraction(at, pieces)) for at in range(pieces + 1)],
                [pair(at % 2) for at in range(pieces + 1)],
                [(pair(at % 2), pair(-pieces if at % 2 else pieces)) for at in range(pieces)],
            )

    def test_jumps_in_turns(self):
        # Twice the place, and 1 less from a half on: it jumps 255 times in 8 turns.
        body = [IN, ("sum", 0, 0), ("is", (-1, 1)), ("sum", 1, 2), ("by", (-1, 1), 3), ("if", 4, 3, 1)]
        told = picture((1, [IN, ("turns", 6, 0, body), ("turns", 2, 1, body)]), NIL, (255, 256))
        self.well_made(told)
        self.assertEqual(told.places, [pair(Fraction(at, 256)) for at in range(256)])
        self.assertEqual(set(told.pieces), {(NIL, (256, 1))})
        self.assertEqual(set(told.worths), {NIL})

    def test_a_small_stretch_and_a_wide_one(self):
        self.as_reckoned(FOLD, (-1, HUGE), (1, HUGE))
        self.as_reckoned(FOLD, (-HUGE, 1), (HUGE, 1))
        self.as_reckoned(FOLD, (HUGE, 1), (HUGE * 2 + 1, 2))
        self.as_reckoned(STAIR, (-1, HUGE), (1, HUGE + 1))

    def test_choices_that_do_not_matter(self):
        steps = [IN, ("by", (-2, 1), 0), ("is", (3, 1)), ("sum", 1, 2), ("least", 0, 3), ("most", 0, 3), ("sum", 4, 5)]
        self.drawn((1, steps), NIL, (5, 1), [NIL, (5, 1)], [(3, 1), (-2, 1)], [((3, 1), (-1, 1))])

    def test_bent_programs(self):
        chance = random.Random(31)
        for turn in range(400):
            program = bent_program(chance, 1)
            low, wide = Fraction(chance.randint(-8, 4), 2), Fraction(chance.randint(1, 20), 2)
            self.as_reckoned(program, pair(low), pair(low + wide))
            told = picture(program, pair(low), pair(low + wide))
            for place in places_of(told):
                self.assertEqual(told_at(told, place), worth_of(program, [place]))

    def test_the_same_for_programs_of_the_same_worth(self):
        chance = random.Random(32)
        for turn in range(200):
            program = bent_program(chance, 1) if turn % 2 else some_program(chance, 1, chance.randint(1, 12), 2)
            wanted = fields(picture(program, (-4, 1), (4, 1)))
            for same in (unrolled(program), shortened(program)):
                self.assertEqual(fields(picture(same, (-4, 1), (4, 1))), wanted)

    def test_the_same_for_programs_of_the_same_worth_by_hand(self):
        twice = (1, [IN, ("sum", 0, 0)])
        halved = (1, [IN, ("by", (1, 2), 0)])
        parts = [IN, ("is", NIL), ("most", 0, 1), ("by", (-1, 1), 0), ("most", 1, 3), ("sum", 2, 4)]
        for same in (behind(twice, behind(FOLD, halved)), behind(FOLD, FOLD), (1, parts)):
            self.assertEqual(fields(picture(same, (-1, 1), ONE)), fields(picture(FOLD, (-1, 1), ONE)))


class TestWorthAt(Checked):
    SHAPE = Picture(
        [(-1, 1), NIL, (1, 2), (2, 1)], [(7, 1), (-7, 1), (3, 1), (8, 1)],
        [((1, 1), (2, 1)), ((5, 1), NIL), ((0, 1), (-1, 3))],
    )

    def test_worths(self):
        for place, wanted in (
            ((-1, 1), (7, 1)), (NIL, (-7, 1)), ((1, 2), (3, 1)), ((2, 1), (8, 1)), ((-1, 2), (2, 1)), ((1, 4), (5, 1)),
            (ONE, (-1, 6)), ((-HUGE + 1, HUGE), pair(1 + Fraction(2, HUGE))), ((1, HUGE), (5, 1)),
        ):
            told = worth_at(self.SHAPE, place)
            self.assertEqual(told, wanted)
            self.assertIs(type(told), tuple)

    def test_limits(self):
        for place, wanted in (
            ((-1, 1), (None, ((1, 1), (2, 1)))), (NIL, (((3, 1), (2, 1)), ((5, 1), NIL))),
            ((1, 2), (((5, 1), NIL), (NIL, (-1, 3)))), ((2, 1), (((-1, 2), (-1, 3)), None)),
            ((-1, 2), (((2, 1), (2, 1)), ((2, 1), (2, 1)))), (ONE, (((-1, 6), (-1, 3)), ((-1, 6), (-1, 3)))),
        ):
            told = limits(self.SHAPE, place)
            self.assertEqual(told, wanted)
            self.assertIs(type(told), tuple)
            for part in told:
                self.assertIn(type(part), (tuple, type(None)))

    def test_two_places_alone(self):
        told = picture(FOLD, ONE, (2, 1))
        self.assertEqual(limits(told, ONE), (None, (ONE, ONE)))
        self.assertEqual(limits(told, (2, 1)), (((2, 1), ONE), None))
        self.assertEqual(worth_at(told, (3, 2)), (3, 2))

    def test_by_the_fields_as_they_stand(self):
        told = picture(FOLD, NIL, (2, 1))
        told.worths[0] = (9, 1)
        told.pieces = [((1, 1), (-1, 1))]
        self.assertEqual(worth_at(told, NIL), (9, 1))
        self.assertEqual(worth_at(told, ONE), NIL)
        self.assertEqual(limits(told, NIL), (None, (ONE, (-1, 1))))

    def test_at_random(self):
        chance = random.Random(33)
        for turn in range(150):
            told = some_picture(chance)
            for place in places_of(told):
                self.assertEqual(worth_at(told, pair(place)), pair(told_at(told, place)))
                beside = Fraction(1, 10 ** 9)
                below, above = limits(told, pair(place))
                for limit, way in ((below, -1), (above, 1)):
                    if limit is None:
                        self.assertEqual(place, frac(told.places[0 if way < 0 else -1]))
                    else:
                        wanted = frac(limit[0]) + way * beside * frac(limit[1])
                        self.assertEqual(told_at(told, place + way * beside), wanted)

    def test_refused(self):
        good = picture(FOLD, (-1, 1), ONE)
        for act in (worth_at, limits):
            for bad in bad_pictures(Picture):
                with self.assertRaises(BadPicture):
                    act(bad, NIL)
                with self.assertRaises(BadPicture):
                    act(bad, None)
            for bad in NOT_NUMBERS + [(-2, 1), (2, 1), (HUGE + 1, HUGE), (-HUGE - 1, HUGE)]:
                with self.assertRaises(BadPlaces):
                    act(good, bad)


class TestTidy(Checked):
    def test_places_that_are_not_needed_go(self):
        places = [(-2, 1), (-1, 1), NIL, ONE, (2, 1)]
        told = tidy(Picture(places, [(at, 1) for at in range(5)], [((at, 1), ONE) for at in range(4)]))
        self.well_made(told)
        self.assertEqual(fields(told), ([(-2, 1), (2, 1)], [NIL, (4, 1)], [(NIL, ONE)]))

    def test_what_makes_a_place_needed(self):
        places = [NIL, ONE, (3, 1)]
        for worth, piece in (
            ((9, 1), ((2, 1), (2, 1))), ((2, 1), ((9, 1), (2, 1))), ((2, 1), ((2, 1), (9, 1))),
            ((9, 1), ((9, 1), (2, 1))),
        ):
            made = Picture(places, [NIL, worth, (7, 1)], [(NIL, (2, 1)), piece])
            self.assertEqual(fields(tidy(made)), fields(made))
        made = Picture(places, [(5, 1), (2, 1), (7, 1)], [(NIL, (2, 1)), ((2, 1), (2, 1))])
        self.assertEqual(fields(tidy(made)), ([NIL, (3, 1)], [(5, 1), (7, 1)], [(NIL, (2, 1))]))

    def test_the_ends_stay(self):
        made = Picture([NIL, ONE], [NIL, ONE], [(NIL, ONE)])
        self.assertEqual(fields(tidy(made)), fields(made))

    def test_at_random(self):
        chance = random.Random(34)
        shorter = 0
        for turn in range(300):
            made = some_picture(chance)
            told = tidy(made)
            self.well_made(told)
            shorter += len(told.places) < len(made.places)
            for place in places_of(made):
                self.assertEqual(told_at(told, place), told_at(made, place))
            self.assertEqual([told.places[0], told.places[-1]], [made.places[0], made.places[-1]])
        self.assertGreater(shorter, 50)

    def test_refused(self):
        for bad in bad_pictures(Picture):
            with self.assertRaises(BadPicture):
                tidy(bad)


class TestMirrored(Checked):
    def test_one(self):
        made = Picture([(-1, 1), NIL, (2, 1)], [(7, 1), (8, 1), (9, 1)], [((1, 1), (2, 1)), ((5, 1), (-1, 2))])
        told = mirrored(made)
        self.well_made(told)
        self.assertEqual(fields(told), (
            [(-2, 1), NIL, ONE], [(9, 1), (8, 1), (7, 1)], [((4, 1), (1, 2)), ((3, 1), (-2, 1))],
        ))

    def test_twice_is_tidy(self):
        chance = random.Random(35)
        for turn in range(200):
            made = some_picture(chance, -1, 4)
            told = mirrored(made)
            self.well_made(told)
            for place in places_of(made):
                self.assertEqual(told_at(told, -place), told_at(made, place))
            self.assertEqual(fields(mirrored(told)), fields(tidy(made)))

    def test_as_a_program(self):
        turned = (1, [IN, ("by", (-1, 1), 0)])
        for program in (FOLD, STAIR, LONE, (1, TENT)):
            wanted = picture(behind(program, turned), (-3, 1), (2, 1))
            self.assertEqual(fields(mirrored(picture(program, (-2, 1), (3, 1)))), fields(wanted))

    def test_refused(self):
        for bad in bad_pictures(Picture):
            with self.assertRaises(BadPicture):
                mirrored(bad)


class TestScaled(Checked):
    MADE = Picture([(-1, 1), NIL, (2, 1)], [(7, 1), (8, 1), (9, 1)], [((1, 1), (2, 1)), ((5, 1), (-1, 2))])

    def test_by_numbers(self):
        self.assertEqual(fields(scaled(self.MADE, (-1, 2))), (
            [(-1, 1), NIL, (2, 1)], [(-7, 2), (-4, 1), (-9, 2)], [((-1, 2), (-1, 1)), ((-5, 2), (1, 4))],
        ))
        self.assertEqual(fields(scaled(self.MADE, (2, 1))), (
            [(-1, 1), NIL, (2, 1)], [(14, 1), (16, 1), (18, 1)], [((2, 1), (4, 1)), ((10, 1), (-1, 1))],
        ))
        self.assertEqual(fields(scaled(self.MADE, NIL)), ([(-1, 1), (2, 1)], [NIL, NIL], [(NIL, NIL)]))

    def test_at_random(self):
        chance = random.Random(36)
        for turn in range(150):
            made = some_picture(chance)
            number = Fraction(chance.randint(-3, 3), chance.choice([1, 2, HUGE]))
            told = scaled(made, pair(number))
            self.well_made(told)
            for place in places_of(made):
                self.assertEqual(told_at(told, place), told_at(made, place) * number)
            self.assertEqual(fields(scaled(made, ONE)), fields(tidy(made)))

    def test_refused(self):
        for bad in bad_pictures(Picture):
            with self.assertRaises(BadPicture):
                scaled(bad, ONE)
            with self.assertRaises(BadPicture):
                scaled(bad, None)
        for bad in NOT_NUMBERS:
            with self.assertRaises(BadPicture):
                scaled(self.MADE, bad)


class TestRefusals(unittest.TestCase):
    def refused(self, error, *parts):
        with self.assertRaises(error):
            picture(*parts)

    def test_in_turn(self):
        for bad in BAD_PROGRAMS:
            self.refused(BadProgram, bad, NIL, ONE)
            self.refused(BadProgram, bad, None, None)
        for inputs in (2, 3):
            self.refused(Others, (inputs, [IN]), NIL, ONE)
            self.refused(Others, (inputs, [IN]), ONE, NIL)
            self.refused(Others, (inputs, [IN]), None, (2, 2))

    def test_no_stretch(self):
        for bad in NOT_NUMBERS:
            self.refused(BadStretch, FOLD, bad, ONE)
            self.refused(BadStretch, FOLD, NIL, bad)
        for low, high in ((NIL, NIL), (ONE, NIL), ((1, 2), (1, 3)), ((-1, 3), (-1, 2)), ((HUGE + 1, HUGE), ONE)):
            self.refused(BadStretch, FOLD, low, high)


class TestNothingKept(unittest.TestCase):
    ACTS = [tidy, mirrored, lambda made: scaled(made, (2, 1)), lambda made: scaled(made, ONE)]

    def made(self):
        return Picture([NIL, ONE, (2, 1)], [NIL, (5, 1), NIL], [(NIL, ONE), (ONE, ONE)])

    def test_nothing_handed_in_is_changed(self):
        for act in self.ACTS + [lambda made: worth_at(made, NIL), lambda made: limits(made, NIL)]:
            made = self.made()
            act(made)
            self.assertEqual(fields(made), fields(self.made()))
        program = (1, copy.deepcopy(LONE[1]))
        picture(program, NIL, ONE)
        self.assertEqual(program, LONE)

    def test_what_is_told_is_new(self):
        for act in self.ACTS + [lambda made: picture(FOLD, NIL, ONE)]:
            made = self.made()
            first, second = act(made), act(made)
            wanted = copy.deepcopy(fields(second))
            for told in (made, first):
                for field in fields(told):
                    field.clear()
            self.assertEqual(fields(second), wanted)

    def test_numbers_told_are_new(self):
        low, high = tuple([0, 1]), tuple([1, 1])
        told = picture((1, [IN]), low, high)
        self.assertIsNot(told.places[0], low)
        self.assertIsNot(told.places[1], high)
        made = self.made()
        self.assertIsNot(worth_at(made, NIL), made.worths[0])
        self.assertIsNot(limits(made, NIL)[1], made.pieces[0])
        self.assertIsNot(tidy(made).pieces[0], made.pieces[0])
        self.assertIsNot(tidy(made).places[0], made.places[0])
        self.assertIsNot(tidy(made).worths[0], made.worths[0])
        for place in (NIL, (1, 2), ONE, (3, 2), (2, 1)):
            for limit in limits(made, place):
                if limit is not None:
                    for number in [number for piece in made.pieces for number in piece]:
                        self.assertIsNot(limit[0], number)
                        self.assertIsNot(limit[1], number)


if __name__ == "__main__":
    unittest.main()

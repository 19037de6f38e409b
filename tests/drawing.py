"""Pictures reckoned by fractions, apart from the package under test; pictures drawn at random."""

from fractions import Fraction

from bendwright.pictures import Picture
from tests.reckoning import frac, pair


def fields(told):
    return (told.places, told.worths, told.pieces)


def places_of(told):
    """The places of a picture, and places between and just beside them, as fractions."""
    found = []
    for low, high in zip(map(frac, told.places), map(frac, told.places[1:])):
        wide = high - low
        found.extend([low, low + wide / 1000, low + wide / 3, low + wide / 2, high - wide / 1000])
    return found + [frac(told.places[-1])]


def told_at(told, place):
    """What a picture tells at a place, by fractions."""
    for at, start in enumerate(told.places):
        if place == frac(start):
            return frac(told.worths[at])
        if at + 1 < len(told.places) and frac(start) < place < frac(told.places[at + 1]):
            worth, slope = told.pieces[at]
            return frac(worth) + (place - frac(start)) * frac(slope)
    raise ValueError("beyond the stretch")


def is_tidy(told):
    """Whether no place but the ends lies on the piece ahead with what is at it and beyond it."""
    for at in range(1, len(told.pieces)):
        worth, slope = told.pieces[at - 1]
        ongoing = frac(worth) + frac(slope) * (frac(told.places[at]) - frac(told.places[at - 1]))
        if frac(told.worths[at]) == ongoing and told.pieces[at] == (pair(ongoing), slope):
            return False
    return True


def some_picture(chance, low=-3, high=3):
    """A picture drawn at random, often with places that aren't needed."""
    inner = sorted(chance.sample(range(low * 2 + 1, high * 2), chance.randint(0, 5)))
    places = [pair(low)] + [pair(Fraction(place, 2)) for place in inner] + [pair(high)]
    worths, pieces = [pair(chance.randint(-2, 2))], []
    for at in range(1, len(places)):
        if at > 1 and chance.random() < 0.4:
            pieces.append((pair(ongoing), pieces[-1][1]))
        else:
            pieces.append((pair(chance.randint(-2, 2)), pair(Fraction(chance.randint(-2, 2), chance.choice([1, 2])))))
        wide = frac(places[at]) - frac(places[at - 1])
        ongoing = frac(pieces[-1][0]) + frac(pieces[-1][1]) * wide
        worths.append(pair(ongoing) if chance.random() < 0.7 else pair(chance.randint(-2, 2)))
    return Picture(places, worths, pieces)

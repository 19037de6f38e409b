"""Pictures reckoned by fractions, apart from the package under test; pictures drawn at random."""

from fractions import Fraction

from bendwright.pictures import Picture
from tests.reckoning import frac, pair


def fields(told):
    return (told.places, told.worths, told.pieces)


def places_of(told):
    """The places of a picture, and places between and just beside them, as fractions."""
    found = []
    for low, high in zip(map(frac, told.places), map(frac, told.places[1:])):
        wide = high - low
        found.extend([low, low + wide / 1000, low + wide / 3, low + wide / 2, high - wide / 1000])
    return found + [frac(told.places[-1])]


def told_at(told, place):
    """What a picture tells at a place, by fractions."""
    for at, start in enumerate(told.places):
        if place == frac(start):
            return frac(told.worths[at])
        if at + 1 < len(told.places) and frac(start) < place < frac(told.places[at + 1]):
            worth, slope = told.pieces[at]
            return frac(worth) + (place - frac(start)) * frac(slope)
    raise ValueError("beyond the stretch")


def is_tidy(told):
    """Whether no place but the ends lies on the piece ahead with what is at it and beyond it."""
    for at in range(1, len(told.pieces)):
        worth, slope = told.pieces[at - 1]
        ongoing = frac(worth) + frac(slope) * (frac(told.places[at]) - frac(told.places[at - 1]))
        if frac(told.worths[at]) == ongoing and told.pieces[at] == (pair(ongoing), slope):
            return False
    return True


def some_picture(chance, low=-3, high=3):
    """A picture drawn at random, often with places that aren't needed."""
    inner = sorted(chance.sample(range(low * 2 + 1, high * 2), chance.randint(0, 5)))
    places = [pair(low)] + [pair(Fraction(place, 2)) for place in inner] + [pair(high)]
    worths, pieces = [pair(chance.randint(-2, 2))], []
    for at in range(1, len(places)):
        if at > 1 and chance.random() < 0.4:
            pieces.append((pair(ongoing), pieces[-1][1]))
        else:
            pieces.append((pair(chance.randint(-2, 2)), pair(Fraction(chance.randint(-2, 2), chance.choice([1, 2])))))
        wide = frac(places[at]) - frac(places[at - 1])
        ongoing = frac(pieces[-1][0]) + frac(pieces[-1][1]) * wide
        worths.append(pair(ongoing) if chance.random() < 0.7 else pair(chance.randint(-2, 2)))
    return Picture(places, worths, pieces)


def cells(told, values=()):
    """Places of a picture, those at which its pieces have one of the values, and one between each two, rising."""
    found = {frac(place) for place in told.places}
    for at, (worth, slope) in enumerate(told.pieces):
        for value in values:
            if slope[0] != 0:
                place = frac(told.places[at]) + (frac(value) - frac(worth)) / frac(slope)
                if frac(told.places[at]) < place < frac(told.places[at + 1]):
                    found.add(place)
    found = sorted(found)
    return sorted(found + [(low + high) / 2 for low, high in zip(found, found[1:])])


def limit_at(told, place, way):
    """What a picture comes to at a place from above, or from below if the way is -1, and the slope; None at an end."""
    ends = [frac(told.places[0]), frac(told.places[-1])]
    if place == ends[way > 0]:
        return None
    beside = min(abs(frac(other) - place) for other in told.places if frac(other) != place) / 4
    near, far = told_at(told, place + way * beside), told_at(told, place + 2 * way * beside)
    return (2 * near - far, (far - near) / beside * way)


def stretched(places, worths):
    """The picture without jumps that goes straight from each worth to the next."""
    slopes = [(frac(high) - frac(low)) / (frac(there) - frac(here))
              for here, there, low, high in zip(places, places[1:], worths, worths[1:])]
    return Picture(places, worths, [(worth, pair(slope)) for worth, slope in zip(worths, slopes)])


def unbroken_picture(chance, steps):
    """A picture without jumps, each worth one of the steps more than the one ahead."""
    places, worths = [Fraction(chance.randint(-4, 4), 2)], [Fraction(chance.randint(-2, 2))]
    slope = Fraction(1)
    for turn in range(chance.randint(1, 7)):
        places.append(places[-1] + Fraction(chance.randint(1, 4), 2))
        # Often it goes on, so that the place ahead isn't needed.
        slope = slope if chance.random() < 0.3 else Fraction(chance.choice(steps), chance.choice([1, 1, 3]))
        worths.append(worths[-1] + slope * (places[-1] - places[-2]))
    return stretched([pair(place) for place in places], [pair(worth) for worth in worths])

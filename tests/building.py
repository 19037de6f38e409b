"""Programs built of terms, and programs that bend or jump at one place along many ways."""

from fractions import Fraction

from bendwright.programs import PLAIN_STEPS
from tests.reckoning import drawn_on, frac, lines_of, pair, side_of, worth_of

X, Y = ("in", 0), ("in", 1)
NIL, ONE, MINUS = (0, 1), (1, 1), (-1, 1)
ZERO = ("is", NIL)


def by(number, term):
    return ("by", pair(number), term)


def gap(one, other):
    return ("sum", one, by(-1, other))


def size_of(term):
    """A term without its sign."""
    return ("most", term, by(-1, term))


def put(steps, term):
    """Put the steps of a term behind those there, none that is there already; the count of the last one."""
    kinds = PLAIN_STEPS.get(term[0], ("many", "step", "body"))
    parts = [put(steps, part) if kind == "step" else part for part, kind in zip(term[1:], kinds)]
    step = (term[0], *parts)
    if step not in steps:
        steps.append(step)
    return steps.index(step)


def built(inputs, term):
    """The program of a term: a step that holds the terms it needs instead of their counts."""
    steps = []
    put(steps, term)
    return (inputs, steps)


def with_inputs(term, news):
    """A term with others put for its inputs."""
    if term[0] == "in":
        return news[term[1]]
    kinds = PLAIN_STEPS.get(term[0], ("many", "step", "body"))
    parts = [with_inputs(part, news) if kind == "step" else part for part, kind in zip(term[1:], kinds)]
    return (term[0], *parts)


# Nothing of a program but what is near the places is seen so near them, as long as its numbers are small.
SPECK = Fraction(1, 2 ** 200)


def edge_agrees(program, places, slopes, speck, one, other):
    """Whether a program is as the slopes tell all along an edge, near the places, from a way to another."""
    value = worth_of(program, places)
    starts = [(place + speck * left, speck * (right - left)) for place, left, right in zip(places, one, other)]
    wanted = (
        value + speck * sum(slope * way for slope, way in zip(slopes, one)),
        speck * sum(slope * (right - left) for slope, left, right in zip(slopes, one, other)),
    )
    rows = lines_of(program[1], starts, Fraction(0), Fraction(1))
    if any(line != wanted for low, high, line in rows):
        return False
    ends = [low for low, high, line in rows] + [Fraction(1)]
    return all(worth_of(program, [drawn_on(start, end) for start in starts]) == drawn_on(wanted, end) for end in ends)


def slopes_of(program, places):
    """The two slopes by which a program of two inputs is flat at places, None if it isn't."""
    value = worth_of(program, places)
    slopes = [worth_of(program, [places[0] + SPECK, places[1]]), worth_of(program, [places[0], places[1] + SPECK])]
    slopes = [(slope - value) / SPECK for slope in slopes]
    ways = [(1, 0), (0, 1), (-1, 0), (0, -1)]
    for speck in (SPECK, SPECK / 2):
        for one, other in zip(ways, ways[1:] + ways[:1]):
            if not edge_agrees(program, places, slopes, speck, one, other):
                return None
    return [pair(slope) for slope in slopes]


def is_kinked(program, places, one, other):
    """Whether two ways show that a program isn't flat at places."""
    both = [pair(frac(left) + frac(right)) for left, right in zip(one, other)]
    told = [side_of(program, places, ways) for ways in (one, other, both)]
    if any(beyond != value for value, beyond, slope, reach in told):
        return True
    return frac(told[0][2]) + frac(told[1][2]) != frac(told[2][2])


def conic_term(chance, inlets, choices, jumping):
    """A term with so many choices at most that bends, and jumps if it may, at 0 and along lines through it."""
    def line():
        return ("sum", *[by(Fraction(chance.randint(-3, 3), chance.choice([1, 1, 2])), inlet) for inlet in inlets])

    if choices == 0:
        return ("is", pair(chance.randint(-1, 1))) if jumping and chance.random() < 0.3 else line()
    left = chance.randrange(choices)
    if chance.random() < 0.2:
        return ("sum", conic_term(chance, inlets, left, jumping), conic_term(chance, inlets, choices - left, jumping))
    one, other = conic_term(chance, inlets, left, jumping), conic_term(chance, inlets, choices - 1 - left, jumping)
    word = chance.choice(["least", "most", "if", "if"])
    if word == "if":
        return (word, line() if chance.random() < 0.6 else size_of(line()), one, other)
    return (word, one, other)


def hidden_bends(chance, inlets):
    """A term that chooses, but is straight."""
    one, other = [conic_term(chance, inlets, chance.randint(0, 1), False) for k in range(2)]
    lines = [conic_term(chance, inlets, 0, False) for k in range(2)]
    return chance.choice([
        ("sum", ("least", *lines), ("most", *lines)),
        ("if", one, lines[0], lines[0]),
        ("if", one, lines[0], ("sum", by(Fraction(1, 3), lines[0]), by(Fraction(2, 3), lines[0]))),
        ("sum", by(0, ("most", one, other)), lines[1]),
        ("if", size_of(lines[0]), lines[1], ("sum", lines[1], by(5, lines[0]))),
    ])

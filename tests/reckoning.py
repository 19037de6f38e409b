"""What is told reckoned by fractions, apart from the package under test; programs drawn at random."""

from fractions import Fraction

from bendwright.errors import BadProgram
from bendwright.programs import size


def frac(number):
    return Fraction(number[0], number[1])


def pair(fraction):
    fraction = Fraction(fraction)
    return (fraction.numerator, fraction.denominator)


def pairs(fractions):
    return [pair(fraction) for fraction in fractions]


def reckoned(steps, places, added=None):
    """The worths of the steps; what is added to steps, told by their counts, goes on to those that need them."""
    told = []
    for at, step in enumerate(steps):
        word, parts = step[0], step[1:]
        if word == "is":
            here = frac(parts[0])
        elif word == "in":
            here = places[parts[0]]
        elif word == "sum":
            here = told[parts[0]] + told[parts[1]]
        elif word == "by":
            here = frac(parts[0]) * told[parts[1]]
        elif word == "least":
            here = min(told[parts[0]], told[parts[1]])
        elif word == "most":
            here = max(told[parts[0]], told[parts[1]])
        elif word == "if":
            here = told[parts[1]] if told[parts[0]] <= 0 else told[parts[2]]
        else:
            here = told[parts[1]]
            for turn in range(parts[0]):
                here = reckoned(parts[2], [here])[-1]
        told.append(here + (added or {}).get(at, 0))
    return told


def worth_of(program, places):
    """The worth at places told as fractions."""
    return reckoned(program[1], places)[-1]


class Split(Exception):
    """A choice changes sides at a place between two."""

    def __init__(self, at):
        super().__init__()
        self.at = at


def inside(low, high):
    """Some place between two; no second one is none that ends it."""
    return low + 1 if high is None else (low + high) / 2


def drawn_on(line, place):
    return line[0] + line[1] * place


def above(line, low, high):
    """Whether a line is above 0 between two places; it is split where it crosses 0 between them."""
    if line[1] != 0:
        root = -line[0] / line[1]
        if low < root and (high is None or root < high):
            raise Split(root)
    return drawn_on(line, inside(low, high)) > 0


def line_of(steps, starts, low, high):
    """The line, a worth at 0 and a slope, of the last step between two places, by those of the inputs."""
    told = []
    for step in steps:
        word, parts = step[0], step[1:]
        if word == "is":
            line = (frac(parts[0]), Fraction(0))
        elif word == "in":
            line = starts[parts[0]]
        elif word == "sum":
            line = tuple(a + b for a, b in zip(told[parts[0]], told[parts[1]]))
        elif word == "by":
            line = tuple(frac(parts[0]) * a for a in told[parts[1]])
        elif word in ("least", "most"):
            one, other = told[parts[0]], told[parts[1]]
            more = above(tuple(a - b for a, b in zip(one, other)), low, high)
            line = one if more == (word == "most") else other
        elif word == "if":
            line = told[parts[2]] if above(told[parts[0]], low, high) else told[parts[1]]
        else:
            line = told[parts[1]]
            for turn in range(parts[0]):
                line = line_of(parts[2], [line], low, high)
        told.append(line)
    return told[-1]


def lines_of(steps, starts, low, high):
    """Triples of two places and the line between them, rising."""
    try:
        return [(low, high, line_of(steps, starts, low, high))]
    except Split as split:
        return lines_of(steps, starts, low, split.at) + lines_of(steps, starts, split.at, high)


def side_of(program, places, ways):
    """Value, beyond, slope and reach as numbers."""
    starts = [(frac(place), frac(way)) for place, way in zip(places, ways)]

    def worth_there(place):
        return worth_of(program, [drawn_on(start, place) for start in starts])

    rows = lines_of(program[1], starts, Fraction(0), None)
    line, reach = rows[0][2], rows[0][1]
    for low, high, onward in rows[1:]:
        if onward != line or worth_there(low) != drawn_on(line, low):
            break
        reach = high
    return (pair(worth_there(0)), pair(line[0]), pair(line[1]), None if reach is None else pair(reach))


def picture_of(program, low, high):
    """The fields of the tidy picture as numbers."""
    rows = lines_of(program[1], [(Fraction(0), Fraction(1))], frac(low), frac(high))
    kept = rows[:1]
    for row in rows[1:]:
        ahead = kept[-1][2]
        if row[2] != ahead or worth_of(program, [row[0]]) != drawn_on(ahead, row[0]):
            kept.append(row)
    places = [row[0] for row in kept] + [rows[-1][1]]
    pieces = [(pair(drawn_on(line, place)), pair(line[1])) for place, end, line in kept]
    return (pairs(places), pairs(worth_of(program, [place]) for place in places), pieces)


def some_number(chance):
    return pair(Fraction(chance.randint(-9, 9), chance.randint(1, 6)))


def some_steps(chance, inputs, many, turning):
    """Steps drawn at random, turns among them if they may be."""
    steps = [("in", chance.randrange(inputs))]
    words = ["is", "in", "sum", "by", "by", "sum", "least", "most", "if"] + ["turns"] * turning
    for at in range(1, many):
        word = chance.choice(words)
        back = [chance.randrange(at) for k in range(3)]
        if word == "is":
            steps.append(("is", some_number(chance)))
        elif word == "in":
            steps.append(("in", chance.randrange(inputs)))
        elif word == "by":
            steps.append(("by", some_number(chance), back[0]))
        elif word == "if":
            steps.append(("if", back[0], back[1], back[2]))
        elif word == "turns":
            body = some_steps(chance, 1, chance.randint(1, 4), 0)
            steps.append(("turns", chance.randint(0, 6), back[0], body))
        else:
            steps.append((word, back[0], back[1]))
    return steps


def some_program(chance, inputs, many, turning):
    """A program with so many steps drawn at random."""
    while True:
        program = (inputs, some_steps(chance, inputs, many, turning))
        try:
            size(program)
        except BadProgram:
            continue
        return program


def bent_steps(chance, inputs, choices):
    """Steps with so many choices, each between lines drawn of what came ahead, so that many cross or jump."""
    steps = [("in", at) for at in range(inputs)]
    lines = list(range(inputs))
    for turn in range(choices):
        for k in range(2):
            from_step = chance.choice(lines[-3:])
            steps.append(("by", pair(Fraction(chance.choice([-3, -2, -1, 1, 2]), chance.choice([1, 1, 2]))), from_step))
            steps.append(("is", pair(Fraction(chance.randint(-4, 4), chance.choice([1, 1, 2])))))
            steps.append(("sum", len(steps) - 2, chance.choice([len(steps) - 1] * 3 + lines)))
            lines.append(len(steps) - 1)
        word = chance.choice(["least", "most", "if", "if"])
        one, other, third = chance.sample(lines[-4:], 3)
        steps.append((word, one, other) if word != "if" else (word, one, other, third))
        lines.append(len(steps) - 1)
    return steps


def bent_program(chance, inputs):
    """A program with up to 8 choices, some of them in turns."""
    many = chance.randint(0, 4)
    steps = bent_steps(chance, inputs, chance.randint(1, 8 - many))
    if many > 0:
        each = chance.choice([k for k in (1, 2, 4) if many % k == 0])
        steps.append(("turns", many // each, len(steps) - 1, bent_steps(chance, 1, each)))
    return (inputs, steps)


def some_places(chance, many):
    """So many numbers drawn at random, whole ones and 0 among them often."""
    return [pair(Fraction(chance.randint(-6, 6), chance.choice([1, 1, 2, 3]))) for k in range(many)]

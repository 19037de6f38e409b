"""Programs made of programs."""

from bendwright.errors import BadProgram, BadStep, Others
from bendwright.programs import MOST_CHOICES, MOST_INPUTS, MOST_RUN, PLAIN_STEPS, check_program, counts, is_count
from bendwright.running import anew, check_places

TURNS_PARTS = ("many", "step", "body")

# Stirring adds an input and a sum.
STIRRING_STEPS = 2


def kinds_of(step):
    """The kinds of a step's parts behind its word."""
    return PLAIN_STEPS.get(step[0], TURNS_PARTS)


def part_anew(part, kind, stands):
    """The same part, new throughout; of a step it needs, what stands for that one."""
    if kind == "number":
        return anew(part)
    if kind == "step":
        return stands[part]
    if kind == "body":
        return steps_anew(part)
    return part


def step_anew(step, stands):
    """The same step, new throughout, needing what stands for the steps that it needs."""
    parts = [part_anew(part, kind, stands) for part, kind in zip(step[1:], kinds_of(step))]
    return (step[0], *parts)


def steps_anew(steps):
    """The same steps, new throughout."""
    themselves = list(range(len(steps)))
    return [step_anew(step, themselves) for step in steps]


def put_behind(told, steps, starts):
    """Put steps behind those told, the counts of their inputs handed in; the count of what has their worth."""
    stands = []
    for step in steps:
        if step[0] == "in":
            stands.append(starts[step[1]])
        else:
            told.append(step_anew(step, stands))
            stands.append(len(told) - 1)
    return stands[-1]


def put_turns(told, many, start, body):
    """Put a body so many times behind the steps told; the count of what has the worth at last."""
    reached = start
    for turn in range(many):
        reached = put_behind(told, body, [reached])
    return reached


def unrolled(program):
    """The program without turns."""
    check_program(program)
    inputs, steps = program
    told = []
    stands = []
    for step in steps:
        if step[0] == "turns":
            stands.append(put_turns(told, step[1], stands[step[2]], step[3]))
        else:
            told.append(step_anew(step, stands))
            stands.append(len(told) - 1)
    # What has the program's worth may stand ahead of others, which it can't need.
    return (inputs, told[:stands[-1] + 1])


def needed_ahead(step):
    """The counts of the steps that a step needs."""
    return [part for part, kind in zip(step[1:], kinds_of(step)) if kind == "step"]


def needed_by_last(steps):
    """For each step whether the last one needs it, itself or by others; the last one is."""
    needed = [False] * len(steps)
    needed[-1] = True
    for at in reversed(range(len(steps))):
        if needed[at]:
            for ahead in needed_ahead(steps[at]):
                needed[ahead] = True
    return needed


def shortened(program):
    """The program with the needed steps only, no two of them alike."""
    check_program(program)
    inputs, steps = program
    told = []
    stands = {}
    needed = needed_by_last(steps)
    for at, step in enumerate(steps):
        if needed[at]:
            put = step_anew(step, stands)
            if put not in told:
                told.append(put)
            stands[at] = told.index(put)
    return (inputs, told)


def behind(outer, inner):
    """The program that has the outer one's worth at the inner one's worth."""
    check_program(outer)
    check_program(inner)
    if outer[0] != 1:
        raise Others("the outer program must have one input")
    outer_run, outer_choices = counts(outer[1])
    inner_run, inner_choices = counts(inner[1])
    if outer_run + inner_run > MOST_RUN:
        raise BadProgram("too many steps run in both together")
    if outer_choices + inner_choices > MOST_CHOICES:
        raise BadProgram("too many least, most and if steps run in both together")
    told = steps_anew(inner[1])
    last = put_behind(told, outer[1], [len(told) - 1])
    return (inner[0], told[:last + 1])


def check_stirring(program, at):
    """Refuse what is no count of a step of the program, and a program that can't be stirred."""
    inputs, steps = program
    if not is_count(at, len(steps)):
        raise BadStep("no step has that count")
    if counts(steps)[0] > MOST_RUN - STIRRING_STEPS:
        raise BadProgram("too many steps run to be stirred")
    if inputs == MOST_INPUTS:
        raise BadProgram("too many inputs to be stirred")


def stirred(program, at):
    """The program with one more input that is added to the worth of the step."""
    check_program(program)
    check_stirring(program, at)
    inputs, steps = program
    told = []
    stands = []
    for count, step in enumerate(steps):
        told.append(step_anew(step, stands))
        if count == at:
            told.append(("in", inputs))
            told.append(("sum", at, at + 1))
        stands.append(len(told) - 1)
    return (inputs + 1, told)


def fixed_step(step, places, at):
    """A step, or, of an input, what stands for it when all inputs but one are fixed."""
    if step[0] != "in":
        return step
    if step[1] == at:
        return ("in", 0)
    return ("is", places[step[1]])


def fixed(program, places, at):
    """The program of that one input, the others being at the places."""
    check_program(program)
    check_places(program, places)
    inputs, steps = program
    if not is_count(at, inputs):
        raise BadStep("no input has that count")
    return (1, steps_anew([fixed_step(step, places, at) for step in steps]))

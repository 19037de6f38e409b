"""Programs: what one is, and how much of it is run."""

from bendwright.errors import BadProgram
from bendwright.shares import is_number, is_whole

MOST_INPUTS = 3
MOST_STEPS = 120
MOST_TURNS = 6
MOST_RUN = 120
MOST_CHOICES = 8

# Steps with turns are left out: a body may hold only these.
PLAIN_STEPS = {
    "is": ("number",),
    "in": ("inlet",),
    "sum": ("step", "step"),
    "by": ("number", "step"),
    "least": ("step", "step"),
    "most": ("step", "step"),
    "if": ("step", "step", "step"),
}

CHOICES = ("least", "most", "if")


def is_count(value, many):
    """Whether it counts one of so many, from 0."""
    return is_whole(value) and 0 <= value < many


def is_part(part, kind, inputs, ahead):
    """Whether it is a part of that kind, with so many inputs, and steps ahead."""
    if kind == "number":
        return is_number(part)
    if kind == "inlet":
        return is_count(part, inputs)
    return is_count(part, ahead)


def is_worded(step):
    """Whether it is a tuple that begins with a text."""
    return isinstance(step, tuple) and len(step) > 0 and isinstance(step[0], str)


def is_plain_step(step, inputs, ahead):
    """Whether it is a step without turns, with so many inputs, and steps ahead."""
    if not is_worded(step):
        return False
    kinds = PLAIN_STEPS.get(step[0])
    if kinds is None or len(step) != len(kinds) + 1:
        return False
    return all([is_part(part, kind, inputs, ahead) for part, kind in zip(step[1:], kinds)])


def is_steps_list(steps):
    """Whether it is a list of as many things as there may be steps."""
    return isinstance(steps, list) and 1 <= len(steps) <= MOST_STEPS


def is_body(body):
    """Whether it is a list of steps of one input without turns."""
    if not is_steps_list(body):
        return False
    return all([is_plain_step(step, 1, at) for at, step in enumerate(body)])


def is_turns(step, ahead):
    """Whether it is a step with turns, with so many steps ahead."""
    if not is_worded(step) or step[0] != "turns" or len(step) != 4:
        return False
    many, at, body = step[1:]
    return is_count(many, MOST_TURNS + 1) and is_count(at, ahead) and is_body(body)


def is_step(step, inputs, ahead):
    """Whether it is a step, with so many inputs, and steps ahead."""
    return is_plain_step(step, inputs, ahead) or is_turns(step, ahead)


def counts(steps):
    """How many steps are run, and how many least, most and if steps among them."""
    run = 0
    choices = 0
    for step in steps:
        run += 1
        if step[0] in CHOICES:
            choices += 1
        if step[0] == "turns":
            body_run, body_choices = counts(step[3])
            run += step[1] * body_run
            choices += step[1] * body_choices
    return (run, choices)


def is_formed(program):
    """Whether it is a program, however many steps of it are run."""
    if not isinstance(program, tuple) or len(program) != 2:
        return False
    inputs, steps = program
    if not is_whole(inputs) or not 1 <= inputs <= MOST_INPUTS:
        return False
    if not is_steps_list(steps):
        return False
    return all([is_step(step, inputs, at) for at, step in enumerate(steps)])


def check_program(program):
    """Refuse what is no program."""
    if not is_formed(program):
        raise BadProgram("a program is a tuple of a count of inputs and a list of steps")
    run, choices = counts(program[1])
    if run > MOST_RUN:
        raise BadProgram("too many steps run")
    if choices > MOST_CHOICES:
        raise BadProgram("too many least, most and if steps run")


def size(program):
    """How many steps are run, and how many least, most and if steps among them."""
    check_program(program)
    return counts(program[1])

"""The refusals of the package."""


class BendError(ValueError):
    """What was handed in is refused."""


class BadNumber(BendError):
    """No number, no whole number, or a parting by 0."""


class BadProgram(BendError):
    """No program, or one that is too great."""


class BadPlaces(BendError):
    """No places of the program, or no place of the stretch."""


class BadWays(BendError):
    """No ways of the program."""


class BadStretch(BendError):
    """No two numbers of which the first is less."""


class BadPicture(BendError):
    """No picture."""


class BadStep(BendError):
    """No count of a step, or of an input."""


class Others(BendError):
    """Other inputs, or another stretch, than what is asked needs."""


class NoBack(BendError):
    """A picture that can't be gone backwards."""


class Jumpy(BendError):
    """A picture that jumps where none may."""

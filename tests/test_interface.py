"""The names, arguments and classes of the interface."""

import importlib
import inspect
import unittest

FUNCTIONS = {
    "shares": {
        "made": "above below", "plus": "one other", "less": "one other", "times": "one other", "over": "one other",
        "order": "one other",
    },
    "programs": {"size": "program"},
    "running": {"worths": "program places", "worth": "program places"},
    "turning": {
        "unrolled": "program", "shortened": "program", "behind": "outer inner", "stirred": "program at",
        "fixed": "program places at",
    },
    "sides": {"side": "program places ways"},
    "pictures": {
        "picture": "program low high", "worth_at": "picture place", "limits": "picture place", "tidy": "picture",
        "mirrored": "picture", "scaled": "picture number",
    },
    "mixing": {"together": "one other", "lesser": "one other", "greater": "one other", "compared": "one other"},
    "finding": {
        "least": "picture", "greatest": "picture", "area": "picture", "rising": "picture", "jumps": "picture",
        "spans": "picture value", "backwards": "picture",
    },
    "slopes": {"slope_at": "program place", "flat": "program places"},
    "resting": {"marks": "program", "descent": "picture place", "rests": "picture place"},
    "tuning": {"carried": "program places ways", "tuned": "program places at low high number"},
}

CLASSES = {
    "sides": {"Side": ("value beyond slope reach", {"shows": "self far"})},
    "pictures": {"Picture": ("places worths pieces", {})},
    "mixing": {
        "Answer": ("", {}),
        "Alike": ("", {"shows": "self one other"}),
        "Differ": ("place", {"shows": "self one other"}),
    },
    "finding": {
        "Reached": ("value place", {}),
        "Near": ("value place up", {}),
        "Rising": ("", {"shows": "self picture"}),
        "Falls": ("one other", {"shows": "self picture"}),
    },
    "slopes": {
        "Smooth": ("slope", {}),
        "Bent": ("below above", {}),
        "Jumps": ("below value above", {}),
        "Flat": ("slopes", {"shows": "self program places"}),
        "Kinked": ("one other", {"shows": "self program places"}),
    },
}

# The classes whose fields are lists, which are copied.
OF_LISTS = ("Picture", "Flat", "Kinked")

ERRORS = "BadNumber BadProgram BadPlaces BadWays BadStretch BadPicture BadStep Others NoBack Jumpy".split()


def taken(act):
    """The names of the arguments, none of which may be left out."""
    parts = inspect.signature(act).parameters.values()
    assert all(part.default is part.empty and part.kind == part.POSITIONAL_OR_KEYWORD for part in parts)
    return " ".join(part.name for part in parts)


class TestInterface(unittest.TestCase):
    def test_functions(self):
        for module, acts in FUNCTIONS.items():
            held = importlib.import_module("bendwright." + module)
            for name, wanted in acts.items():
                self.assertEqual(taken(getattr(held, name)), wanted, name)

    def test_classes(self):
        for module, classes in CLASSES.items():
            held = importlib.import_module("bendwright." + module)
            for name, (wanted, methods) in classes.items():
                made = getattr(held, name)
                self.assertEqual(made.__module__, "bendwright." + module)
                self.assertEqual(taken(made), wanted)
                handed = {field: [(at, 1)] if name in OF_LISTS else (at, 1) for at, field in enumerate(wanted.split())}
                told = made(**handed)
                self.assertEqual(vars(told), handed)
                for field, value in handed.items():
                    self.assertFalse(isinstance(value, list) and getattr(told, field) is value)
                for method, arguments in methods.items():
                    self.assertEqual(taken(vars(made)[method]), arguments)

    def test_all_answers_stand_straight_under_answer(self):
        answer = importlib.import_module("bendwright.mixing").Answer
        for module, classes in CLASSES.items():
            held = importlib.import_module("bendwright." + module)
            for name in classes:
                wanted = (object,) if name in ("Side", "Picture", "Answer") else (answer,)
                self.assertEqual(getattr(held, name).__bases__, wanted)

    def test_all_errors_stand_straight_under_one(self):
        errors = importlib.import_module("bendwright.errors")
        self.assertEqual(errors.BendError.__bases__, (ValueError,))
        for name in ERRORS:
            self.assertEqual(getattr(errors, name).__bases__, (errors.BendError,))


if __name__ == "__main__":
    unittest.main()

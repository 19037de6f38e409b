"""The names, arguments and classes of the interface, as far as they have landed."""

import importlib
import inspect
import unittest

FUNCTIONS = {
    "shares": {
        "made": "above below", "plus": "one other", "less": "one other", "times": "one other", "over": "one other",
        "order": "one other",
    },
    "programs": {"size": "program"},
    "running": {"worths": "program places", "worth": "program places"},
    "turning": {
        "unrolled": "program", "shortened": "program", "behind": "outer inner", "stirred": "program at",
        "fixed": "program places at",
    },
    "sides": {"side": "program places ways"},
    "pictures": {
        "picture": "program low high", "worth_at": "picture place", "limits": "picture place", "tidy": "picture",
        "mirrored": "picture", "scaled": "picture number",
    },
    "mixing": {"together": "one other", "lesser": "one other", "greater": "one other", "compared": "one other"},
}

CLASSES = {
    "sides": {"Side": ("value beyond slope reach", {"shows": "self far"})},
    "pictures": {"Picture": ("places worths pieces", {})},
    "mixing": {
        "Answer": ("", {}),
        "Alike": ("", {"shows": "self one other"}),
        "Differ": ("place", {"shows": "self one other"}),
    },
}


def taken(act):
    """The names of the arguments, none of which may be left out."""
    parts = inspect.signature(act).parameters.values()
    assert all(part.default is part.empty and part.kind == part.POSITIONAL_OR_KEYWORD for part in parts)
    return " ".join(part.name for part in parts)


class TestInterface(unittest.TestCase):
    def test_functions(self):
        for module, acts in FUNCTIONS.items():
            held = importlib.import_module("bendwright." + module)
            for name, wanted in acts.items():
                self.assertEqual(taken(getattr(held, name)), wanted, name)

    def test_classes(self):
        for module, classes in CLASSES.items():
            held = importlib.import_module("bendwright." + module)
            for name, (wanted, methods) in classes.items():
                made = getattr(held, name)
                self.assertEqual(made.__module__, "bendwright." + module)
                self.assertEqual(taken(made), wanted)
                handed = {field: [(at, 1)] if name == "Picture" else (at, 1) for at, field in enumerate(wanted.split())}
                self.assertEqual(vars(made(**handed)), handed)
                for method, arguments in methods.items():
                    self.assertEqual(taken(vars(made)[method]), arguments)


if __name__ == "__main__":
    unittest.main()

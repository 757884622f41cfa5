import inspect
import unittest

from makerlines import errors, kinds, likes, orders, runs, wishes, yards

METHODS = {
    kinds.Kind: {
        "__init__": "(self, fields, calls, *, modes=1)",
        "fields": "(self)",
        "calls": "(self)",
        "names": "(self)",
        "__getitem__": None,
        "__contains__": None,
        "__len__": "(self)",
        "__iter__": "(self)",
        "__eq__": None,
        "takes": "(self, name)",
        "own": "(self, name, field)",
        "text": "(self)",
        "of_text": "(text)",
    },
    runs.Run: {
        "__init__": "(self, kind, rows=())",
        "rows": "(self)",
        "__len__": "(self)",
        "__iter__": "(self)",
        "__eq__": None,
        "further": "(self, rows)",
        "things": "(self)",
        "made": "(self, k)",
        "one": "(self, i, j, field)",
        "is_onward": "(self)",
    },
    yards.Yard: {
        "__init__": "(self, kind)",
        "make": "(self)",
        "undo": "(self)",
        "run": "(self)",
    },
    yards.Thing: {
        "call": "(self, name, word=None)",
        "look": "(self)",
    },
}
FUNCTIONS = {
    runs: {"own_things": "(kind, rows)"},
    wishes: {
        "is_broken": "(wish, run)",
        "judge": "(kind, wish, callers='forks')",
        "is_closed": "(kind, wish, callers, standings)",
        "mends": "(kind, wish, callers='forks')",
    },
    likes: {
        "alike": "(one, other, callers='forks')",
        "is_idle": "(kind, name, callers='forks')",
        "styles": "(kind)",
        "either": "(kind, one, other)",
    },
    orders: {
        "freest": "(kind, rules=())",
        "is_good": "(kind, rules, names)",
    },
}


class Interface(unittest.TestCase):
    """The section "The interface"."""

    def test_methods_stand_in_the_class_itself(self):
        for owner, methods in METHODS.items():
            for name, signature in methods.items():
                with self.subTest(f"{owner.__name__}.{name}"):
                    self.assertIn(name, vars(owner))
                    if signature is not None:
                        self.assertEqual(str(inspect.signature(getattr(owner, name))), signature)

    def test_of_text_is_static(self):
        self.assertIsInstance(vars(kinds.Kind)["of_text"], staticmethod)

    def test_each_name_is_defined_in_its_file(self):
        self.assertEqual(kinds.Kind.__module__, "makerlines.kinds")
        self.assertEqual(runs.Run.__module__, "makerlines.runs")
        self.assertEqual(yards.Yard.__module__, "makerlines.yards")
        self.assertEqual(yards.Thing.__module__, "makerlines.yards")
        self.assertEqual(errors.MakerError.__module__, "makerlines.errors")

    def test_each_function_is_defined_in_its_file(self):
        for module, functions in FUNCTIONS.items():
            for name, signature in functions.items():
                with self.subTest(name):
                    function = getattr(module, name)
                    self.assertEqual((function.__name__, function.__module__), (name, module.__name__))
                    self.assertEqual(str(inspect.signature(function)), signature)

    def test_attributes_are_set_when_the_object_is_made(self):
        kind = kinds.Kind([("a", "many", False)], [("z", "self", [0, 1], [], [])], modes=2)
        self.assertEqual(vars(kind)["modes"], 2)
        self.assertIs(vars(runs.Run(kind))["kind"], kind)

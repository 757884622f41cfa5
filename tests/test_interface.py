import inspect
import unittest

from makerlines import errors, kinds, runs

METHODS = {
    kinds.Kind: {
        "__init__": "(self, fields, calls, *, modes=1)",
        "fields": "(self)",
        "calls": "(self)",
        "names": "(self)",
        "__getitem__": None,
        "__contains__": None,
        "__len__": "(self)",
        "__iter__": "(self)",
        "__eq__": None,
        "takes": "(self, name)",
        "own": "(self, name, field)",
        "text": "(self)",
        "of_text": "(text)",
    },
    runs.Run: {
        "__init__": "(self, kind, rows=())",
        "rows": "(self)",
        "__len__": "(self)",
        "__iter__": "(self)",
        "__eq__": None,
        "further": "(self, rows)",
        "things": "(self)",
        "made": "(self, k)",
        "one": "(self, i, j, field)",
        "is_onward": "(self)",
    },
}


class Interface(unittest.TestCase):
    """The section "The interface", for errors.py, kinds.py and runs.py."""

    def test_methods_stand_in_the_class_itself(self):
        for owner, methods in METHODS.items():
            for name, signature in methods.items():
                with self.subTest(f"{owner.__name__}.{name}"):
                    self.assertIn(name, vars(owner))
                    if signature is not None:
                        self.assertEqual(str(inspect.signature(getattr(owner, name))), signature)

    def test_of_text_is_static(self):
        self.assertIsInstance(vars(kinds.Kind)["of_text"], staticmethod)

    def test_each_name_is_defined_in_its_file(self):
        self.assertEqual(kinds.Kind.__module__, "makerlines.kinds")
        self.assertEqual(runs.Run.__module__, "makerlines.runs")
        self.assertEqual(runs.own_things.__module__, "makerlines.runs")
        self.assertEqual(errors.MakerError.__module__, "makerlines.errors")
        self.assertEqual(str(inspect.signature(runs.own_things)), "(kind, rows)")

    def test_attributes_are_set_when_the_object_is_made(self):
        kind = kinds.Kind([("a", "many", False)], [("z", "self", [0, 1], [], [])], modes=2)
        self.assertEqual(vars(kind)["modes"], 2)
        self.assertIs(vars(runs.Run(kind))["kind"], kind)

import unittest

from makerlines import errors

PARAMETERS = {
    "BadField": ["index"],
    "BadModes": ["modes"],
    "BadCall": ["index", "reason"],
    "UnknownCall": ["name"],
    "BadPlace": ["place"],
    "BadText": ["line"],
    "BadRow": ["index"],
    "BadWord": ["word"],
    "Refused": [],
    "BadThing": [],
    "BadWish": ["wish"],
    "BadRun": ["thing"],
    "BadCallers": ["callers"],
    "BadKind": ["kind"],
    "BadRule": ["index"],
}


class Errors(unittest.TestCase):
    """[36]"""

    def test_base(self):
        self.assertEqual(errors.MakerError.__bases__, (ValueError,))
        self.assertIsInstance(errors.MakerError(), ValueError)

    def test_direct_subclasses_and_no_others(self):
        found = {x.__name__: x for x in errors.MakerError.__subclasses__()}
        self.assertEqual(sorted(found), sorted(PARAMETERS))
        for name, found_class in found.items():
            self.assertEqual(found_class.__bases__, (errors.MakerError,))
            self.assertEqual(found_class.__subclasses__(), [])
            self.assertIs(found_class, getattr(errors, name))
            self.assertEqual(found_class.__module__, "makerlines.errors")

    def test_attributes_are_the_very_objects(self):
        for name, parameters in PARAMETERS.items():
            objects = [[name, parameter] for parameter in parameters]
            with self.subTest(name):
                error = getattr(errors, name)(*objects)
                self.assertEqual(list(vars(error)), parameters)
                for parameter, one in zip(parameters, objects):
                    self.assertIs(getattr(error, parameter), one)

    def test_arguments_by_name(self):
        for name, parameters in PARAMETERS.items():
            error = getattr(errors, name)(**{parameter: parameter for parameter in parameters})
            self.assertEqual(vars(error), {parameter: parameter for parameter in parameters})

    def test_arguments_are_needed_just_where_they_are_shown(self):
        for name, parameters in PARAMETERS.items():
            with self.subTest(name), self.assertRaises(TypeError):
                if not parameters:
                    getattr(errors, name)(what=1)
                else:
                    getattr(errors, name)()

    def test_caught_as_the_base(self):
        for name, parameters in PARAMETERS.items():
            with self.assertRaises(errors.MakerError):
                raise getattr(errors, name)(*parameters)

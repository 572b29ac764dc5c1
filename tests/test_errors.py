"""Promise [2]: the errors."""

import unittest

from mendvault import errors

ATTRIBUTES = {
    "BadValue": "at",
    "Beyond": "word",
    "BadName": "name",
    "NothingThere": "name",
    "NoRoom": "word",
    "BadText": "at",
    "BadPaper": "at",
    "BadLine": "at",
}


class ErrorsTest(unittest.TestCase):
    def test_base_class(self):
        self.assertEqual(errors.VaultError.__bases__, (Exception,))
        with self.assertRaises(errors.VaultError):
            raise errors.VaultError()

    def test_the_direct_subclasses_are_these_eight(self):
        names = sorted(each.__name__ for each in errors.VaultError.__subclasses__())
        self.assertEqual(names, sorted(ATTRIBUTES))

    def test_each_has_the_base_class_alone(self):
        for name in ATTRIBUTES:
            with self.subTest(name):
                self.assertEqual(getattr(errors, name).__bases__, (errors.VaultError,))

    def test_argument_by_position(self):
        for name, attribute in ATTRIBUTES.items():
            for argument in (0, 7) if attribute == "at" else ("", "word"):
                with self.subTest(name, argument=argument):
                    error = getattr(errors, name)(argument)
                    self.assertEqual(vars(error), {attribute: argument})

    def test_argument_by_name(self):
        for name, attribute in ATTRIBUTES.items():
            for argument in (0, 7) if attribute == "at" else ("", "word"):
                with self.subTest(name, argument=argument):
                    error = getattr(errors, name)(**{attribute: argument})
                    self.assertEqual(vars(error), {attribute: argument})

    def test_each_takes_just_one_argument(self):
        for name in ATTRIBUTES:
            with self.subTest(name):
                with self.assertRaises(TypeError):
                    getattr(errors, name)()
                with self.assertRaises(TypeError):
                    getattr(errors, name)(1, 2)

    def test_none_is_caught_as_another_one(self):
        for name in ATTRIBUTES:
            for other in ATTRIBUTES:
                with self.subTest(name, other=other):
                    is_other = issubclass(getattr(errors, name), getattr(errors, other))
                    self.assertEqual(is_other, name == other)

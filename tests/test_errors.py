"""The errors of kilnyard.errors: their classes, attributes and base classes."""

import unittest

from kilnyard import errors
from kilnyard.errors import (BuildError, Held, InvalidContent, InvalidKey, InvalidPath, InvalidRecipe,
                             NoEntry, TreeFull)


class TestErrors(unittest.TestCase):
    def test_all_are_build_errors(self):
        self.assertTrue(issubclass(BuildError, ValueError))
        for kind in (InvalidKey, InvalidPath, InvalidContent, NoEntry, TreeFull, InvalidRecipe, Held):
            with self.subTest(kind=kind.__name__):
                self.assertEqual(kind.__bases__, (BuildError,))
                self.assertEqual(kind.__module__, errors.__name__)

    def test_the_base_class_can_be_raised_and_caught(self):
        with self.assertRaises(ValueError):
            raise BuildError("a reason")

    def test_errors_with_a_path(self):
        for kind in (InvalidPath, InvalidContent, NoEntry, TreeFull):
            for path in ("a/b", "", "no % path\n", "x" * 1000):
                with self.subTest(kind=kind.__name__, path=path):
                    error = kind(path)
                    self.assertEqual(error.path, path)
                    self.assertIsInstance(str(error), str)

    def test_invalid_key(self):
        for key in (0, -5, 2, 128 ** 400):
            error = InvalidKey(key)
            self.assertEqual(error.key, key)
            self.assertIsInstance(str(error), str)

    def test_a_key_that_python_does_not_write_out_has_a_message(self):
        error = InvalidKey(2 ** 40000)
        self.assertEqual(error.key, 2 ** 40000)
        self.assertIsInstance(str(error), str)
        self.assertIsInstance(repr(error), str)

    def test_invalid_recipe(self):
        error = InvalidRecipe("rules", 3, 14, "missing token")
        self.assertEqual((error.path, error.line, error.column, error.reason),
                         ("rules", 3, 14, "missing token"))
        self.assertIsInstance(str(error), str)

    def test_held(self):
        job = object()
        error = Held(job)
        self.assertIs(error.job, job)
        self.assertIsInstance(str(error), str)

    def test_arguments_by_keyword(self):
        self.assertEqual(InvalidKey(key=7).key, 7)
        for kind in (InvalidPath, InvalidContent, NoEntry, TreeFull):
            self.assertEqual(kind(path="a").path, "a")
        self.assertEqual(InvalidRecipe(path="a", line=1, column=2, reason="r").reason, "r")
        self.assertEqual(Held(job=8).job, 8)


if __name__ == "__main__":
    unittest.main()

"""The errors of kilnyard.refusals: their classes, attributes and base classes."""

import inspect
import unittest

from kilnyard import refusals
from kilnyard.errors import BuildError

# For each class the attribute that keeps what it is created with, and the name of the argument.
WITH_ATTRIBUTE = {
    "InvalidRecord": ("line", "line"),
    "MissingContent": ("key", "key"),
    "NoSuchRecord": ("index", "index"),
    "DamagedRecord": ("index", "index"),
    "InvalidLength": ("length", "length"),
    "InvalidGoals": ("count_of_goals", "count"),
    "NotReady": ("name", "name"),
    "NotRunning": ("name", "name"),
    "NoSuchAttempt": ("attempt", "attempt"),
    "NoSuchWorker": ("worker", "worker"),
    "WorkerGone": ("worker", "worker"),
    "WorkerThere": ("worker", "worker"),
    "WorkerIdle": ("worker", "worker"),
    "InvalidDelay": ("moments", "moments"),
    "InvalidHouse": ("count_of_hosts", "count"),
    "NoSuchHost": ("host", "host"),
    "HostDown": ("host", "host"),
    "HostUp": ("host", "host"),
    "HostBusy": ("host", "host"),
    "NoBuild": ("host", "host"),
    "InvalidCount": ("amount", "count"),
    "InvalidSetting": ("name", "name"),
}
TEXTS = ("InvalidRecord", "NotReady", "NotRunning", "InvalidSetting")
WITH_TEXT = ("BuildOver", "InvalidCrew")


def class_of(name):
    return getattr(refusals, name)


def raised(kind, *values):
    """The error that comes of raising a class with these values, caught as a BuildError."""
    try:
        raise kind(*values)
    except BuildError as error:
        return error


class TestRefusals(unittest.TestCase):
    def test_all_are_build_errors_of_this_module(self):
        for name in list(WITH_ATTRIBUTE) + list(WITH_TEXT):
            with self.subTest(name=name):
                self.assertEqual(class_of(name).__bases__, (BuildError,))
                self.assertEqual(class_of(name).__module__, "kilnyard.refusals")

    def test_these_are_all_classes_of_the_module(self):
        classes = [name for name, value in vars(refusals).items()
                   if inspect.isclass(value) and value.__module__ == "kilnyard.refusals"]
        self.assertEqual(sorted(classes), sorted(list(WITH_ATTRIBUTE) + list(WITH_TEXT)))

    def test_what_an_error_is_created_with_is_its_attribute(self):
        for name, (attribute, _) in WITH_ATTRIBUTE.items():
            for value in ["a/b", "", "no % text\n"] if name in TEXTS else [0, 7, -1]:
                with self.subTest(name=name, value=value):
                    error = raised(class_of(name), value)
                    self.assertIs(error.__class__, class_of(name))
                    self.assertEqual(getattr(error, attribute), value)
                    self.assertIsInstance(str(error), str)
                    self.assertIsInstance(repr(error), str)

    def test_arguments_by_keyword(self):
        for name, (attribute, argument) in WITH_ATTRIBUTE.items():
            with self.subTest(name=name):
                self.assertEqual(getattr(class_of(name)(**{argument: 5}), attribute), 5)

    def test_an_argument_is_needed(self):
        for name in WITH_ATTRIBUTE:
            with self.subTest(name=name):
                with self.assertRaises(TypeError):
                    class_of(name)()

    def test_errors_with_a_text(self):
        for name in WITH_TEXT:
            for text in ("the build is over", ""):
                with self.subTest(name=name, text=text):
                    error = raised(class_of(name), text)
                    self.assertIs(error.__class__, class_of(name))
                    self.assertEqual(str(error), text)

    def test_errors_with_a_text_can_do_without(self):
        # The document writes `BuildOver()` and `InvalidCrew()` where it says when they are raised.
        for name in WITH_TEXT:
            with self.subTest(name=name):
                self.assertIs(raised(class_of(name)).__class__, class_of(name))

    def test_a_key_that_python_does_not_write_out_has_a_message(self):
        error = refusals.MissingContent(2 ** 40000)
        self.assertEqual(error.key, 2 ** 40000)
        self.assertIsInstance(str(error), str)
        self.assertIsInstance(repr(error), str)

    def test_errors_of_one_kind_are_told_apart(self):
        # Each pair of classes with the same attribute stays a pair of classes.
        for name in WITH_ATTRIBUTE:
            for other in WITH_ATTRIBUTE:
                if name != other:
                    self.assertFalse(issubclass(class_of(name), class_of(other)), (name, other))


if __name__ == "__main__":
    unittest.main()

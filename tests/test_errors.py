"""The errors: names, attributes in their order, and the one base class."""

import unittest

from pullstore import errors
from pullstore.errors import StoreError

LISTED = {
    "InvalidNet": ["link"],
    "InvalidHomes": ["entry"],
    "InvalidLogs": ["replica"],
    "UnknownReplica": ["replica"],
    "UnknownEntry": ["entry"],
    "UnknownRule": ["rule"],
    "NotLinked": ["source", "reader"],
    "NotTree": [],
    "NotStrong": [],
    "NotRing": [],
    "NotComplete": [],
    "NotHeld": ["replica", "entry"],
    "NotPrefix": ["replica"],
    "NotFull": ["replica"],
    "NotAllowed": ["action"],
    "BadTrace": ["index"],
    "BadOrder": ["position"],
    "Unreachable": ["evidence"],
    "NotFitting": ["action"],
    "Apart": ["replica"],
    "InvalidTable": ["first", "second"],
    "CyclicTable": ["replica", "triple"],
    "InvalidChoices": ["replica"],
    "TooMany": ["count"],
    "ImpossibleChoices": ["fault"],
    "InvalidDepths": ["fault"],
    "FreeFault": ["fault"],
    "InvalidData": ["entry"],
    "NoGoal": [],
    "NothingToUndo": [],
    "NothingToRedo": [],
}

WORTHS = [(0, 1), None, 7, ("write", 3), "odd", [1, 2], -(10 ** 29)]


class ErrorsTest(unittest.TestCase):
    def test_the_base_class_is_a_value_error(self):
        self.assertEqual(StoreError.__bases__, (ValueError,))
        self.assertEqual(StoreError.__module__, "pullstore.errors")

    def test_each_error_is_defined_directly_under_the_base_class(self):
        for name in LISTED:
            with self.subTest(name):
                listed = getattr(errors, name)
                self.assertEqual(listed.__name__, name)
                self.assertEqual(listed.__bases__, (StoreError,))
                self.assertEqual(listed.__module__, "pullstore.errors")

    def test_the_attributes_are_the_arguments_in_their_order(self):
        for name, attributes in LISTED.items():
            for shift in range(len(WORTHS)):
                with self.subTest(name, shift=shift):
                    given = [WORTHS[(shift + k) % len(WORTHS)] for k in range(len(attributes))]
                    error = getattr(errors, name)(*given)
                    self.assertEqual(list(vars(error).items()), list(zip(attributes, given)))

    def test_the_arguments_have_the_names_of_the_attributes(self):
        for name, attributes in LISTED.items():
            with self.subTest(name):
                given = {attribute: k for k, attribute in enumerate(attributes)}
                error = getattr(errors, name)(**given)
                self.assertEqual(vars(error), given)

    def test_each_error_takes_exactly_its_arguments(self):
        for name, attributes in LISTED.items():
            if attributes:
                with self.subTest(name), self.assertRaises(TypeError):
                    getattr(errors, name)(*range(len(attributes) + 1))
                with self.subTest(name), self.assertRaises(TypeError):
                    getattr(errors, name)(*range(len(attributes) - 1))

    def test_each_error_is_caught_as_store_error_and_as_value_error(self):
        for name, attributes in LISTED.items():
            with self.subTest(name):
                with self.assertRaises(StoreError):
                    raise getattr(errors, name)(*range(len(attributes)))
                with self.assertRaises(ValueError):
                    raise getattr(errors, name)(*range(len(attributes)))

    def test_no_error_catches_another_one(self):
        for name in LISTED:
            for other in LISTED:
                if name != other:
                    self.assertFalse(issubclass(getattr(errors, name), getattr(errors, other)))


if __name__ == "__main__":
    unittest.main()

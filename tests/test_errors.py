"""The module evenodds.errors: the thirty classes, their attributes, and the bounds."""

import ast
import inspect
import unittest

from evenodds import errors
from plain import SEQUENCE

ATTRIBUTES = (
    ("InvalidQuestion", ("question",)), ("InvalidLetters", ("value",)), ("InvalidWeight", ("value",)),
    ("InvalidSize", ("value",)), ("InvalidText", ("line",)), ("InvalidEdit", ("edit",)),
    ("InvalidName", ("name",)), ("DuplicateName", ("name",)), ("UnknownName", ("name",)),
    ("EndStruck", ("name",)), ("InvalidWord", ("word",)), ("TooLow", ("value",)), ("InvalidRanks", ("ranks",)),
    ("InvalidFacet", ("facet",)), ("WrongCount", ("due", "given")), ("UnlikeSums", ("reason",)),
    ("DuplicateCover", ("lower", "upper")), ("MissingCover", ("lower", "upper")), ("NotBelow", ("low", "high")),
    ("NotClosed", ("high", "low")), ("BadBorder", ("reason",)), ("TooMany", ("what", "most")),
    ("RingFound", ("name",)), ("NoEnd", ("end",)), ("WrongRank", ("lower", "upper")), ("TooHigh", ("value",)),
    ("Uneven", ("low", "high", "evens", "odds")), ("OddNumber", ("word", "number")),
    ("NotReadable", ("word", "number")), ("NoStep", ("direction",)),
)


def sample_values(names):
    """A different value for each attribute, tuples where the document has tuples."""
    if names in (("edit",), ("ranks",), ("facet",)):
        return ((1, 2),)
    return tuple(f"value {name}" for name in names)


class ErrorClasses(unittest.TestCase):
    def test_there_are_thirty_in_the_order_of_the_document(self):
        self.assertEqual(len(ATTRIBUTES), 30)
        self.assertEqual([label for label, _ in ATTRIBUTES], SEQUENCE)
        with open(errors.__file__) as source:
            tree = ast.parse(source.read())
        classes = [item.name for item in tree.body if isinstance(item, ast.ClassDef)]
        self.assertEqual(classes, ["EvenOddsError"] + SEQUENCE)

    def test_each_is_derived_from_the_base_class_directly(self):
        self.assertEqual(errors.EvenOddsError.__bases__, (ValueError,))
        for label, _ in ATTRIBUTES:
            found = getattr(errors, label)
            self.assertEqual(found.__bases__, (errors.EvenOddsError,))
            self.assertEqual(found.__name__, label)
            self.assertEqual(found.__module__, "evenodds.errors")
            self.assertTrue(issubclass(found, ValueError))
            self.assertEqual(found.__subclasses__(), [])

    def test_attributes_by_place_and_by_name(self):
        for label, names in ATTRIBUTES:
            found = getattr(errors, label)
            self.assertEqual(tuple(inspect.signature(found).parameters), names)
            values = sample_values(names)
            for error in (found(*values), found(**dict(zip(names, values)))):
                self.assertEqual(tuple(getattr(error, name) for name in names), values)
                self.assertEqual(error.label, label)
                self.assertIsInstance(error, ValueError)
                self.assertIsInstance(str(error), str)

    def test_lists_in_an_attribute_are_tuples(self):
        self.assertEqual(errors.InvalidRanks([2, 1]).ranks, (2, 1))
        self.assertEqual(errors.InvalidFacet([2, 1]).facet, (2, 1))
        self.assertEqual(errors.InvalidEdit([]).edit, ())
        deep = [["a", ([1, None],)], ("b", [[], ()]), None, 3]
        self.assertEqual(errors.InvalidEdit(deep).edit, (("a", ((1, None),)), ("b", ((), ())), None, 3))
        self.assertEqual(deep, [["a", ([1, None],)], ("b", [[], ()]), None, 3])

    def test_an_error_can_be_caught_by_the_base_class(self):
        for label, names in ATTRIBUTES:
            with self.assertRaises(errors.EvenOddsError):
                raise getattr(errors, label)(*sample_values(names))


class Constants(unittest.TestCase):
    def test_values(self):
        values = {
            "MOST_NAME": 24, "MOST_THINGS": 40, "MOST_HEIGHT": 9, "MOST_WEIGHT": 9, "MOST_CHAINS": 2000,
            "SMALL_THINGS": 16, "MOST_FACETS": 12, "MOST_CORNERS": 9,
        }
        for name, value in values.items():
            self.assertEqual(getattr(errors, name), value)
            self.assertIs(getattr(errors, name).__class__, int)
        written = [name for name in vars(errors) if name.isupper()]
        self.assertEqual(sorted(written), sorted(values))


if __name__ == "__main__":
    unittest.main()

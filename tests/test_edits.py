"""The module evenodds.edits: points [13] to [15]."""

import unittest

from evenodds import errors
from evenodds.edits import apply_edit, apply_edits, inverse_edit
from evenodds.orders import Order
from evenodds.relations import is_alike
from plain import tuples_only
from samples import WRONG_FORMS, Asks, diamond, line, line_lists, one, two, wide


class Both(Asks):
    """An error of `apply_edit` is that of `inverse_edit`, too, and that of a list of this one edit."""

    def assert_edit_error(self, expected, values, order, edit):
        self.assert_error(expected, values, apply_edit, order, edit)
        self.assert_error(expected, values, inverse_edit, order, edit)
        self.assert_error(expected, values, apply_edits, order, [edit])

    def assert_inverse(self, order, edit, inverse):
        """The inverse is exactly this tuple, and it leads back to an order that is alike."""
        found = inverse_edit(order, edit)
        self.assertEqual(found, inverse)
        self.assertIs(found.__class__, tuple)
        for part in found:
            self.assertIn(part.__class__, (str, tuple))
        self.assertIs(is_alike(apply_edit(apply_edit(order, edit), found), order), True)


class Forms(Both, unittest.TestCase):
    """Each of the five forms where it fits."""

    def test_add(self):
        order = apply_edit(diamond(), ("add", "v", ["w"], ["z"]))
        due = (("w", "y"), ("w", "x"), ("w", "v"), ("y", "z"), ("x", "z"), ("v", "z"))
        self.assert_same_order(order, ("w", "y", "x", "v", "z"), due)

    def test_add_at_the_ends(self):
        order = apply_edit(one(), ("add", "y", ["x"], []))
        self.assert_same_order(order, ("x", "y"), (("x", "y"),))
        order = apply_edit(one(), ("add", "y", [], ["x"]))
        self.assert_same_order(order, ("y", "x"), (("y", "x"),))
        order = apply_edit(diamond(), ("add", "n", (), ("w",)))
        self.assertEqual(order.names, ("n", "w", "y", "x", "z"))

    def test_add_in_the_middle_with_several_covers(self):
        start = apply_edit(diamond(), ["add", "top", ["z"], []])
        start = apply_edit(start, ("add", "u", ["x", "y"], ["top"]))
        self.assertEqual(start.names, ("w", "y", "x", "z", "u", "top"))
        self.assertEqual(start.lowers("u"), ("y", "x"))

    def test_drop(self):
        order = apply_edit(diamond(), ("drop", "x"))
        self.assert_same_order(order, ("w", "y", "z"), (("w", "y"), ("y", "z")))
        self.assert_same_order(apply_edit(two(), ["drop", "a"]), ("b",), ())
        self.assert_same_order(apply_edit(two(), ["drop", "b"]), ("a",), ())

    def test_cover_and_uncover(self):
        names = ["n", "a", "b", "c", "d", "o"]
        covers = [("n", "a"), ("n", "b"), ("a", "c"), ("b", "d"), ("c", "o"), ("d", "o")]
        order = Order(names, covers)
        more = apply_edit(order, ("cover", "a", "d"))
        self.assert_same_order(more, order.names, Order(names, covers + [("a", "d")]).covers)
        self.assertEqual(apply_edit(more, ["uncover", "a", "d"]), order)

    def test_rename(self):
        order = apply_edit(diamond(), ("rename", "y", "q"))
        self.assert_same_order(order, ("w", "q", "x", "z"), (("w", "q"), ("w", "x"), ("q", "z"), ("x", "z")))
        self.assert_same_order(apply_edit(one(), ["rename", "x", "z"]), ("z",), ())
        self.assertEqual(apply_edit(diamond(), ("rename", "y", "y")), diamond())
        self.assertEqual(apply_edit(one(), ("rename", "x", "x")), one())

    def test_lists_tuples_and_parameters_by_name(self):
        due = apply_edit(diamond(), ("add", "v", ("w",), ("z",)))
        for edit in (["add", "v", ["w"], ["z"]], ["add", "v", ("w",), ["z"]], ("add", "v", ["w"], ("z",))):
            self.assertEqual(apply_edit(order=diamond(), edit=edit), due)
            self.assertEqual(inverse_edit(order=diamond(), edit=edit), ("drop", "v"))
            self.assertEqual(apply_edits(order=diamond(), edits=(edit,)), due)

    def test_nothing_makes_up_for_what_is_dropped(self):
        self.assert_edit_error(errors.NoEnd, ("least",), line(3), ("drop", "t1"))


class FormErrors(Both, unittest.TestCase):
    def test_wrong_forms(self):
        for edit in WRONG_FORMS:
            for order in (one(), diamond()):
                self.assert_edit_error(errors.InvalidEdit, (tuples_only(edit),), order, edit)

    def test_lists_in_the_attribute_are_tuples_at_any_depth(self):
        edit = ["add", ["a", [1, (None, ["b"])]], ([],)]
        due = ("add", ("a", (1, (None, ("b",)))), ((),))
        self.assert_edit_error(errors.InvalidEdit, (due,), one(), edit)
        self.assertEqual(edit, ["add", ["a", [1, (None, ["b"])]], ([],)])
        deep, shown = ["b"], ("b",)
        for _ in range(18):
            deep, shown = [deep], (shown,)
        self.assert_edit_error(errors.InvalidEdit, ((shown,),), one(), (deep,))

    def test_nothing_else_is_due(self):
        # The names are wrong and unknown, and the edited order would be no order.
        self.assert_edit_error(errors.InvalidEdit, (("rename", "q", "B", "c"),), one(), ("rename", "q", "B", "c"))
        self.assert_edit_error(errors.InvalidEdit, (("add", "B", ("q",)),), one(), ("add", "B", ["q"]))
        self.assert_edit_error(errors.InvalidEdit, (("drop", "x", "q"),), one(), ("drop", "x", "q"))


class NameErrors(Both, unittest.TestCase):
    def test_the_examples_of_the_document(self):
        order = two()
        self.assert_edit_error(errors.InvalidName, ("B",), order, ("rename", "q", "B"))
        self.assert_edit_error(errors.DuplicateName, ("a",), order, ("rename", "q", "a"))
        self.assert_edit_error(errors.UnknownName, ("q",), order, ("rename", "q", "c"))
        self.assert_edit_error(errors.DuplicateName, ("a",), order, ("add", "a", ["q"], []))
        self.assert_edit_error(errors.InvalidName, ("B",), order, ("rename", "B", "B"))
        self.assert_edit_error(errors.UnknownName, ("q",), order, ("rename", "q", "q"))

    def test_invalid_name(self):
        for name in ("", "B", "a\n", "a b", "a_b", "x" * 25):
            self.assert_edit_error(errors.InvalidName, (name,), two(), ("add", name, ["a"], ["b"]))
            self.assert_edit_error(errors.InvalidName, (name,), two(), ("rename", "a", name))
            self.assert_edit_error(errors.InvalidName, (name,), two(), ("rename", name, name))
        self.assert_edit_error(errors.InvalidName, ("B",), two(), ("add", "B", ["q"], ["B"]))

    def test_duplicate_name(self):
        self.assert_edit_error(errors.DuplicateName, ("a",), two(), ("add", "a", [], []))
        self.assert_edit_error(errors.DuplicateName, ("b",), two(), ("rename", "a", "b"))
        self.assert_edit_error(errors.DuplicateName, ("a",), two(), ("rename", "b", "a"))
        self.assert_edit_error(errors.DuplicateName, ("b",), two(), ("rename", "B", "b"))

    def test_unknown_name(self):
        self.assert_edit_error(errors.UnknownName, ("q",), two(), ("add", "c", ["a", "q"], ["r"]))
        self.assert_edit_error(errors.UnknownName, ("r",), two(), ("add", "c", ["a"], ["r", "q"]))
        self.assert_edit_error(errors.UnknownName, ("q",), two(), ("add", "c", ["c", "q"], []))
        self.assert_edit_error(errors.UnknownName, ("B",), two(), ("drop", "B"))
        for word in ("cover", "uncover"):
            self.assert_edit_error(errors.UnknownName, ("q",), two(), (word, "q", "r"))
            self.assert_edit_error(errors.UnknownName, ("q",), two(), (word, "q", "a"))
            self.assert_edit_error(errors.UnknownName, ("q",), two(), (word, "a", "q"))
            self.assert_edit_error(errors.UnknownName, ("q",), two(), (word, "q", "q"))

    def test_unknown_name_before_duplicate_cover(self):
        self.assert_edit_error(errors.UnknownName, ("q",), two(), ("add", "c", ["a", "a"], ["q"]))
        self.assert_edit_error(errors.UnknownName, ("q",), two(), ("add", "c", ["q", "q"], []))


class CoverErrors(Both, unittest.TestCase):
    def test_missing_cover(self):
        for lower, upper in (("w", "z"), ("x", "w"), ("z", "w"), ("x", "y"), ("x", "x"), ("w", "w")):
            self.assert_edit_error(errors.MissingCover, (lower, upper), diamond(), ("uncover", lower, upper))
        self.assert_edit_error(errors.MissingCover, ("x", "x"), one(), ("uncover", "x", "x"))

    def test_duplicate_cover(self):
        for lower, upper in diamond().covers:
            self.assert_edit_error(errors.DuplicateCover, (lower, upper), diamond(), ("cover", lower, upper))
        self.assert_edit_error(errors.DuplicateCover, ("w", "v"), diamond(), ("add", "v", ["w", "w"], ["z"]))
        self.assert_edit_error(errors.DuplicateCover, ("v", "z"), diamond(), ("add", "v", ["w"], ["z", "z"]))
        self.assert_edit_error(errors.DuplicateCover, ("v", "v"), diamond(), ("add", "v", ["w", "v"], ["v"]))
        # The pairs of the lower things stand before those of the upper ones.
        edit = ("add", "v", ["x", "w", "w", "x"], ["z", "z"])
        self.assert_edit_error(errors.DuplicateCover, ("w", "v"), diamond(), edit)
        self.assert_edit_error(errors.DuplicateCover, ("v", "z"), diamond(), ("add", "v", ["v"], ["z", "z", "v"]))


class OrderErrors(Both, unittest.TestCase):
    """The errors of `Order` to which an edit leads."""

    def test_too_many(self):
        self.assertEqual(apply_edit(wide(39), ("add", "v", ["n"], ["o"])).size, 40)
        self.assert_edit_error(errors.TooMany, ("things", 40), wide(40), ("add", "v", ["n"], ["o"]))
        self.assert_edit_error(errors.TooMany, ("things", 40), wide(40), ("add", "v", ["v"], []))
        self.assert_edit_error(errors.DuplicateCover, ("n", "v"), wide(40), ("add", "v", ["n", "n"], []))

    def test_ring_found(self):
        self.assert_edit_error(errors.RingFound, ("x",), diamond(), ("cover", "x", "x"))
        self.assert_edit_error(errors.RingFound, ("w",), diamond(), ("cover", "z", "w"))
        self.assert_edit_error(errors.RingFound, ("y",), diamond(), ("cover", "z", "y"))
        self.assert_edit_error(errors.RingFound, ("v",), diamond(), ("add", "v", ["v"], []))
        self.assert_edit_error(errors.RingFound, ("v",), diamond(), ("add", "v", ["w"], ["v"]))
        self.assert_edit_error(errors.RingFound, ("w",), diamond(), ("add", "v", ["z"], ["w"]))
        # The ring runs from x over z and v; x has the smallest place on it.
        self.assert_edit_error(errors.RingFound, ("x",), diamond(), ("add", "v", ["z"], ["x"]))

    def test_no_end(self):
        self.assert_edit_error(errors.NoEnd, ("least",), diamond(), ("drop", "w"))
        self.assert_edit_error(errors.NoEnd, ("greatest",), diamond(), ("drop", "z"))
        self.assert_edit_error(errors.NoEnd, ("least",), one(), ("drop", "x"))
        self.assert_edit_error(errors.NoEnd, ("least",), diamond(), ("uncover", "w", "x"))
        self.assert_edit_error(errors.NoEnd, ("greatest",), diamond(), ("uncover", "x", "z"))
        self.assert_edit_error(errors.NoEnd, ("least",), two(), ("uncover", "a", "b"))
        self.assert_edit_error(errors.NoEnd, ("least",), two(), ("add", "c", [], []))
        self.assert_edit_error(errors.NoEnd, ("greatest",), two(), ("add", "c", ["a"], []))

    def test_wrong_rank(self):
        self.assert_edit_error(errors.WrongRank, ("w", "z"), diamond(), ("cover", "w", "z"))
        self.assert_edit_error(errors.WrongRank, ("w", "x"), diamond(), ("cover", "y", "x"))
        self.assert_edit_error(errors.WrongRank, ("a", "b"), two(), ("add", "c", ["a"], ["b"]))

    def test_wrong_rank_follows_the_sequence_of_the_lists(self):
        # All covers of v are wrong with these ranks; those of `lowers` go first, each list in its sequence.
        long = line(6)
        self.assert_edit_error(errors.WrongRank, ("t1", "v"), long, ("add", "v", ["t1", "t0", "t2"], ["t5"]))
        self.assert_edit_error(errors.WrongRank, ("t0", "v"), long, ("add", "v", ["t0", "t1", "t2"], ["t5"]))
        self.assert_edit_error(errors.WrongRank, ("v", "t5"), long, ("add", "v", ["t0"], ["t5", "t4"]))
        self.assert_edit_error(errors.WrongRank, ("v", "t4"), long, ("add", "v", ["t0"], ["t4", "t5"]))

    def test_too_high(self):
        self.assertEqual(apply_edit(line(9), ("add", "v", ["t8"], [])).height, 9)
        self.assert_edit_error(errors.TooHigh, (10,), line(10), ("add", "v", ["t9"], []))
        self.assert_edit_error(errors.TooHigh, (10,), line(10), ("add", "v", [], ["t0"]))


class Inverses(Both, unittest.TestCase):
    def test_add(self):
        self.assert_inverse(diamond(), ("add", "v", ["w"], ["z"]), ("drop", "v"))
        self.assert_inverse(diamond(), ["add", "v", [], ["w"]], ("drop", "v"))

    def test_drop(self):
        self.assert_inverse(diamond(), ["drop", "y"], ("add", "y", ("w",), ("z",)))
        order = apply_edit(diamond(), ("add", "top", ["z"], []))
        order = apply_edit(order, ("add", "u", ["x", "y"], ["top"]))
        self.assert_inverse(order, ("drop", "u"), ("add", "u", ("y", "x"), ("top",)))
        self.assert_inverse(two(), ("drop", "a"), ("add", "a", (), ("b",)))
        self.assert_inverse(two(), ("drop", "b"), ("add", "b", ("a",), ()))

    def test_drop_with_several_upper_things_by_place(self):
        names = ["n", "c", "a", "b", "o"]
        covers = [("n", "a"), ("n", "b"), ("n", "c"), ("a", "o"), ("b", "o"), ("c", "o")]
        order = apply_edit(Order(names, covers), ("add", "m", [], ["n"]))
        self.assert_inverse(order, ("drop", "m"), ("add", "m", (), ("n",)))
        names, covers = ["l", "k", "j", "n", "c", "a", "b", "o"], []
        covers += [("n", name) for name in "jkl"] + [(name, "c") for name in "jkl"]
        covers += [("k", "a"), ("k", "b")] + [(name, "o") for name in "abc"]
        order = Order(names, covers + [("l", "a"), ("j", "b")])
        self.assert_inverse(order, ("drop", "k"), ("add", "k", ("n",), ("c", "a", "b")))
        self.assert_inverse(order, ("drop", "c"), ("add", "c", ("l", "k", "j"), ("o",)))

    def test_cover_and_uncover(self):
        names = ["n", "a", "b", "c", "d", "o"]
        covers = [("n", "a"), ("n", "b"), ("a", "c"), ("b", "d"), ("c", "o"), ("d", "o")]
        order = Order(names, covers)
        self.assert_inverse(order, ["cover", "a", "d"], ("uncover", "a", "d"))
        more = apply_edit(order, ("cover", "a", "d"))
        self.assert_inverse(more, ["uncover", "a", "d"], ("cover", "a", "d"))

    def test_rename(self):
        self.assert_inverse(diamond(), ["rename", "x", "q"], ("rename", "q", "x"))
        self.assert_inverse(diamond(), ("rename", "x", "x"), ("rename", "x", "x"))


class Lists(Both, unittest.TestCase):
    edits = (("add", "v", ["w"], ["z"]), ["rename", "v", "u"], ("drop", "x"))

    def test_each_edit_is_applied_to_the_result_of_the_one_before(self):
        for edits in (self.edits, list(self.edits)):
            order = apply_edits(diamond(), edits)
            self.assert_same_order(order, ("w", "y", "u", "z"), (("w", "y"), ("w", "u"), ("y", "z"), ("u", "z")))

    def test_the_empty_list(self):
        for order in (one(), diamond()):
            self.assertEqual(apply_edits(order, []), order)
            self.assertEqual(apply_edits(order, ()), order)

    def test_an_error_in_the_middle(self):
        edits = [self.edits[0], ("drop", "q"), (), ("rename", "w", "B")]
        self.assert_error(errors.UnknownName, ("q",), apply_edits, diamond(), edits)
        # The later edit's error is of a class that is listed earlier; the turn decides.
        self.assert_error(errors.NoEnd, ("least",), apply_edits, diamond(), [("drop", "w"), ()])
        self.assert_error(errors.InvalidEdit, ((),), apply_edits, diamond(), [(), ("drop", "w")])

    def test_an_order_in_between_must_be_an_order(self):
        # Both covers together would be good; the first edit alone leaves two greatest things.
        edits = [("uncover", "x", "z"), ("cover", "x", "z")]
        self.assert_error(errors.NoEnd, ("greatest",), apply_edits, diamond(), edits)

    def test_the_limit_of_a_list(self):
        edits = [("rename", "x", "y"), ("rename", "y", "x")] * 500
        self.assertEqual(apply_edits(one(), edits), one())

    def test_the_lists_of_a_line(self):
        names, _ = line_lists(10)
        edits = [("add", upper, [lower], []) for lower, upper in zip(names, names[1:])]
        self.assertEqual(apply_edits(Order(["t0"]), edits), line(10))


if __name__ == "__main__":
    unittest.main()

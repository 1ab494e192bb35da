"""The common rules, points [1] to [5], as far as they speak of orders, relations and edits."""

import copy
import unittest

from evenodds import errors
from evenodds.edits import apply_edit, apply_edits, inverse_edit
from evenodds.orders import Order
from evenodds.relations import is_alike, is_matching, order_from_relations, relations, renamed
from samples import Asks, answer, diamond, line, one, two, wide


def everything(order):
    """All that the interface tells of an order."""
    told = [order.names, order.covers, order.height, order.weight, order.least, order.greatest, order.size]
    told += [order.at_rank(rank) for rank in range(-2, 12)] + [tuple(order), relations(order)]
    for name in order:
        told += [order.rank(name), order.place(name), order.lowers(name), order.uppers(name), name in order]
        told += [(order.is_below(name, other), order.is_at_most(name, other)) for other in order]
    return told


class Arguments(unittest.TestCase):
    """No argument is modified, and no list that was passed is kept."""

    calls = (
        (Order, ["z", "y", "x", "w"], [["w", "x"], ("w", "y"), ["x", "z"], ("y", "z")]),
        (Order, ["a", "a"], [["q", "r"]]),
        (Order, ["a", "b"], [["a", "b"], ["b", "a"]]),
        (order_from_relations, ["c", "b", "a"], [["a", "b"], ["b", "c"], ["a", "c"], ["a", "b"]]),
        (order_from_relations, ["c", "b", "a"], [["a", "b"], ["b", "a"]]),
        (renamed, diamond(), ["d", "c", "b", "a"]),
        (renamed, diamond(), ["d", "c"]),
        (is_matching, diamond(), diamond(), [["z", "z"], ["x", "y"], ["y", "x"], ["w", "w"]]),
        (apply_edit, diamond(), ["add", "v", ["w"], ["z"]]),
        (apply_edit, diamond(), ["add", "v", ["w", "w"], ["v"]]),
        (apply_edit, diamond(), ["add", ["v", ["w"]], [[]]]),
        (inverse_edit, diamond(), ["drop", "x"]),
        (inverse_edit, diamond(), ["add", "v", ["w"], ["z"]]),
        (apply_edits, diamond(), [["add", "v", ["w"], ["z"]], ["drop", "x"]]),
        (apply_edits, diamond(), [["add", "v", ["w"], ["z"]], ["drop", "q"]]),
    )

    def test_no_argument_is_modified(self):
        for function, *given in self.calls:
            before = copy.deepcopy(given)
            told = [everything(item) for item in given if isinstance(item, Order)]
            try:
                function(*given)
            except errors.EvenOddsError:
                pass
            self.assertEqual(given, before)
            self.assertEqual([everything(item) for item in given if isinstance(item, Order)], told)

    def test_equal_calls_give_equal_values(self):
        for function, *given in self.calls:
            if function in (is_matching, inverse_edit):
                self.assertEqual(function(*given), function(*copy.deepcopy(given)))
            else:
                self.assertEqual(answer(function, *given), answer(function, *copy.deepcopy(given)))

    def assert_not_kept(self, function, *given):
        order = function(*given)
        told = everything(order)
        for item in given:
            if isinstance(item, list):
                for inner in item:
                    if isinstance(inner, list):
                        inner.clear()
                item.clear()
        self.assertEqual(everything(order), told)

    def test_a_later_change_of_a_list_has_no_effect(self):
        self.assert_not_kept(Order, ["z", "y", "x", "w"], [["w", "x"], ["w", "y"], ["x", "z"], ["y", "z"]])
        self.assert_not_kept(order_from_relations, ["c", "b", "a"], [["a", "b"], ["b", "c"], ["a", "c"]])
        self.assert_not_kept(renamed, diamond(), ["d", "c", "b", "a"])
        self.assert_not_kept(apply_edit, diamond(), ["add", "v", ["w"], ["z"]])
        self.assert_not_kept(apply_edits, diamond(), [["add", "v", ["w"], ["z"]], ["drop", "x"]])

    def test_an_inverse_and_an_error_keep_no_list(self):
        edit = ["add", "v", ["w"], ["z"]]
        found = inverse_edit(diamond(), edit)
        edit.clear()
        self.assertEqual(found, ("drop", "v"))
        edit = ["add", ["v"], ["w"]]
        with self.assertRaises(errors.InvalidEdit) as caught:
            apply_edit(one(), edit)
        edit[1].append("q")
        edit.clear()
        self.assertEqual(caught.exception.edit, ("add", ("v",), ("w",)))

    def test_an_edit_leaves_the_order_as_it_was(self):
        order = diamond()
        told = everything(order)
        changed = apply_edit(order, ("drop", "x"))
        apply_edits(changed, [("add", "x", ["w"], ["z"]), ("rename", "x", "q")])
        renamed(order, ["a", "b", "c", "d"])
        self.assertEqual(everything(order), told)


class Values(unittest.TestCase):
    def assert_own_kinds(self, value):
        """The value is made of Python's own kinds and exact tuples only."""
        self.assertIn(value.__class__, (int, str, tuple, bool, None.__class__))
        if isinstance(value, tuple):
            for item in value:
                self.assert_own_kinds(item)

    def test_kinds(self):
        orders = [one(), two(), diamond(), line(10), wide(40)]
        orders += [order_from_relations(["b", "a"], [["a", "b"]]), renamed(two(), ["d", "c"])]
        orders += [apply_edit(two(), ["rename", "a", "c"]), apply_edits(two(), [["drop", "a"]])]
        for order in orders:
            self.assertIs(order.__class__, Order)
            for value in everything(order):
                self.assert_own_kinds(value)
            for value in (order.height, order.weight, order.size, order.rank(order.least), order.place(order.least)):
                self.assertIs(value.__class__, int)
        for edit in (["add", "v", ["w"], ["z"]], ["drop", "x"], ["rename", "x", "q"]):
            self.assert_own_kinds(inverse_edit(diamond(), edit))

    def test_kinds_of_tuples_of_another_class(self):
        class Pair(tuple):
            pass

        order = Order(Pair(["b", "a"]), Pair([Pair(["a", "b"])]))
        for value in everything(order):
            self.assert_own_kinds(value)

    def test_answers_are_true_or_false(self):
        for value in (is_alike(one(), one()), is_alike(one(), two()), is_matching(one(), two(), []),
                      is_matching(one(), one(), [("x", "x")]), one() == one(), one() == two(), "x" in one()):
            self.assertIn(value, (True, False))
            self.assertIs(value.__class__, bool)


class EqualOrders(unittest.TestCase):
    """Equal orders cannot be told apart, however they were made."""

    def test_the_same_order_made_in_several_ways(self):
        ways = [
            diamond(),
            Order(["y", "w", "z", "x"], diamond().covers[::-1]),
            order_from_relations(["w", "z", "y", "x"], relations(diamond())),
            renamed(Order(["a", "b", "c", "d"], [("a", "b"), ("a", "c"), ("b", "d"), ("c", "d")]), "w y x z".split()),
            apply_edits(line(3), [("rename", "t0", "w"), ("rename", "t1", "y"), ("rename", "t2", "z"),
                                  ("add", "x", ["w"], ["z"])]),
        ]
        edits = [("drop", "x"), ("rename", "y", "q"), ("add", "v", ["w"], ["z"]), ("cover", "w", "z"), ("drop", "w"),
                 ("uncover", "x", "y"), ("cover", "z", "w"), ("drop", "q"), ("add", "v", ["z"], ["x"]), ()]
        for order in ways:
            self.assertEqual(order, ways[0])
            self.assertEqual(everything(order), everything(ways[0]))
            for edit in edits:
                self.assertEqual(answer(apply_edit, order, edit), answer(apply_edit, ways[0], edit))


class ManyThings(Asks, unittest.TestCase):
    """The limits of [5] for what is passed."""

    def test_a_thousand_names_and_covers(self):
        names = [f"t{k}" for k in range(1000)]
        covers = list(zip(names, names[1:]))
        self.assert_error(errors.TooMany, ("things", 40), Order, names, covers)
        self.assert_error(errors.DuplicateName, ("t0",), Order, names[:999] + ["t0"], covers)
        self.assert_error(errors.UnknownName, ("t999",), Order, names[:999], covers)

    def test_a_thousand_pairs_of_forty_names(self):
        names = [f"t{k}" for k in range(40)]
        pairs = [(low, high) for at, low in enumerate(names) for high in names[at + 1:]]
        self.assert_error(errors.TooHigh, (39,), order_from_relations, names, (pairs * 2)[:1000])
        self.assert_error(errors.WrongRank, ("t0", "t2"), Order, names, pairs)
        self.assert_error(errors.RingFound, ("t0",), Order, names, pairs + [("t39", "t0")])

    def test_long_texts_where_any_text_may_be_passed(self):
        text = "a" * 20000
        self.assert_error(errors.InvalidName, (text,), Order, [text])
        self.assert_error(errors.UnknownName, (text,), one().rank, text)
        self.assert_error(errors.UnknownName, (text,), apply_edit, one(), ("drop", text))
        self.assertIs(text in one(), False)


if __name__ == "__main__":
    unittest.main()

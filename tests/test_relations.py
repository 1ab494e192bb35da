"""The module evenodds.relations: points [11] and [12]."""

import itertools
import unittest

from evenodds import errors
from evenodds.orders import Order
from evenodds.relations import is_alike, is_matching, order_from_relations, relations, renamed
from samples import Asks, diamond, line, line_lists, one, triangle, two, wide, wide_lists


class Relations(unittest.TestCase):
    def test_by_place(self):
        due = (("w", "y"), ("w", "x"), ("w", "z"), ("y", "z"), ("x", "z"))
        self.assertEqual(relations(diamond()), due)
        self.assertEqual(relations(order=two()), (("a", "b"),))
        self.assertEqual(relations(one()), ())

    def test_all_pairs(self):
        names, _ = line_lists(10)
        self.assertEqual(relations(line(10)), tuple(itertools.combinations(names, 2)))
        self.assertEqual(len(relations(wide(40))), 77)


class FromRelations(Asks, unittest.TestCase):
    def test_it_undoes_relations(self):
        for order in (one(), two(), diamond(), triangle(), line(10), wide(40)):
            for pairs in (relations(order), relations(order)[::-1], order.covers, order.covers * 2):
                again = order_from_relations(order.names, pairs)
                self.assert_same_order(again, order.names, order.covers)

    def test_the_names_are_the_given_sequence(self):
        pairs = [("w", "x"), ("w", "y"), ("x", "z"), ("y", "z"), ("w", "z")]
        order = order_from_relations(["z", "y", "x", "w"], pairs)
        self.assertEqual(order, diamond())
        order = order_from_relations(["x", "w", "y", "z"], pairs)
        self.assertEqual(order.names, ("w", "x", "y", "z"))

    def test_repeated_pairs_and_pairs_that_are_no_covers(self):
        pairs = [("a", "c"), ("a", "b"), ("a", "c"), ("b", "c"), ["a", "b"]]
        order = order_from_relations(["c", "b", "a"], pairs)
        self.assert_same_order(order, ("a", "b", "c"), (("a", "b"), ("b", "c")))

    def test_lists_tuples_and_parameters_by_name(self):
        due = (("a", "b"), (("a", "b"),))
        for names in (["b", "a"], ("b", "a")):
            for pairs in ([("a", "b")], (["a", "b"],), [["a", "b"]]):
                self.assert_same_order(order_from_relations(names, pairs), *due)
                self.assert_same_order(order_from_relations(pairs=pairs, names=names), *due)

    def test_no_pairs(self):
        self.assert_same_order(order_from_relations(["x"], []), ("x",), ())
        self.assert_error(errors.NoEnd, ("least",), order_from_relations, ["x", "y"], [])
        self.assert_error(errors.NoEnd, ("least",), order_from_relations, [], [])

    def test_errors_of_names(self):
        self.assert_error(errors.InvalidName, ("B",), order_from_relations, ["a", "a", "B", "C"], [])
        self.assert_error(errors.DuplicateName, ("a",), order_from_relations, ["b", "a", "a", "b"], [("q", "a")])
        pairs = [("a", "b"), ("a", "r"), ("q", "a")]
        self.assert_error(errors.UnknownName, ("r",), order_from_relations, ["a", "b"], pairs)
        self.assert_error(errors.UnknownName, ("q",), order_from_relations, ["a", "b"], [("q", "r")])

    def test_rings(self):
        self.assert_error(errors.RingFound, ("a",), order_from_relations, ["a"], [("a", "a")])
        pairs = [("a", "b"), ("b", "c"), ("c", "b"), ("c", "d")]
        self.assert_error(errors.RingFound, ("c",), order_from_relations, ["a", "d", "c", "b"], pairs)
        self.assert_error(errors.RingFound, ("b",), order_from_relations, ["a", "b"], [("a", "b"), ("b", "b")])
        # No path leads on from the ring and none to it; there is no least thing either.
        self.assert_error(errors.RingFound, ("b",), order_from_relations, ["a", "b", "c"], [("b", "c"), ("c", "b")])

    def test_too_many_before_ring_found(self):
        names, pairs = line_lists(41)
        self.assert_error(errors.TooMany, ("things", 40), order_from_relations, names, pairs + [("t0", "t0")])
        self.assert_error(errors.TooMany, ("things", 40), order_from_relations, *wide_lists(41))
        pairs = [("q", "t0")]
        self.assert_error(errors.UnknownName, ("q",), order_from_relations, names, pairs)

    def test_ends(self):
        self.assert_error(errors.NoEnd, ("least",), order_from_relations, list("abc"), [("a", "c"), ("b", "c")])
        self.assert_error(errors.NoEnd, ("greatest",), order_from_relations, list("abc"), [("a", "b"), ("a", "c")])

    def test_wrong_rank_tells_the_first_cover_by_the_names(self):
        # Ranks: n 0, a 1, b 1, c 2, d 2, e 3, o 4. Wrong are a to o and d to o, whatever the sequence of the pairs.
        pairs = [("n", "a"), ("a", "o"), ("n", "b"), ("b", "c"), ("c", "e"), ("e", "o"), ("b", "d"), ("d", "o")]
        for told in (pairs, pairs[::-1], sorted(pairs)):
            names = ["o", "d", "c", "b", "a", "n", "e"]
            self.assert_error(errors.WrongRank, ("d", "o"), order_from_relations, names, told)
            names = ["a", "b", "c", "d", "e", "n", "o"]
            self.assert_error(errors.WrongRank, ("a", "o"), order_from_relations, names, told)

    def test_wrong_rank_sorts_covers_of_one_thing_by_the_upper_name(self):
        # Ranks: n 0, a 1, b 1, c 2, p 3, q 3, o 4. Wrong are a to p and a to q.
        pairs = [("n", "a"), ("n", "b"), ("b", "c"), ("c", "p"), ("c", "q"), ("a", "p"), ("a", "q"),
                 ("p", "o"), ("q", "o")]
        for names, due in ((["n", "a", "b", "c", "p", "q", "o"], "p"), (["o", "q", "p", "c", "b", "a", "n"], "q")):
            for told in (pairs, pairs[::-1]):
                self.assert_error(errors.WrongRank, ("a", due), order_from_relations, names, told)

    def test_a_pair_doubled_by_a_path_is_no_error(self):
        order = order_from_relations(["a", "b", "c"], [("a", "b"), ("b", "c"), ("a", "c")])
        self.assertEqual(order.covers, (("a", "b"), ("b", "c")))

    def test_too_high(self):
        names, pairs = line_lists(11)
        self.assert_error(errors.TooHigh, (10,), order_from_relations, names, pairs)
        self.assertEqual(order_from_relations(names[:10], pairs[:9]).height, 9)


class Alike(unittest.TestCase):
    def test_unlike_place_sequences_only(self):
        other = Order(["w", "x", "y", "z"], diamond().covers)
        self.assertFalse(diamond() == other)
        self.assertIs(is_alike(diamond(), other), True)
        self.assertIs(is_alike(other=other, order=diamond()), True)
        self.assertIs(is_alike(diamond(), diamond()), True)

    def test_unlike_names_or_covers(self):
        self.assertIs(is_alike(one(), Order(["y"])), False)
        self.assertIs(is_alike(two(), Order(["b", "a"], [("b", "a")])), False)
        self.assertIs(is_alike(two(), Order(["a", "c"], [("a", "c")])), False)
        self.assertIs(is_alike(one(), two()), False)
        names = ["n", "a", "b", "c", "d", "o"]
        outer = [("n", "a"), ("n", "b"), ("c", "o"), ("d", "o")]
        first = Order(names, outer + [("a", "c"), ("b", "d")])
        second = Order(names, outer + [("a", "d"), ("b", "c")])
        self.assertIs(is_alike(first, second), False)
        third = Order(names, outer + [("a", "c"), ("b", "d"), ("a", "d")])
        self.assertIs(is_alike(first, third), False)
        self.assertIs(is_alike(third, first), False)


class Renamed(Asks, unittest.TestCase):
    def test_by_place(self):
        order = renamed(diamond(), ["a", "b", "c", "d"])
        self.assert_same_order(order, ("a", "b", "c", "d"), (("a", "b"), ("a", "c"), ("b", "d"), ("c", "d")))
        self.assert_same_order(renamed(order=one(), names=("y",)), ("y",), ())

    def test_names_that_change_places(self):
        order = renamed(diamond(), ("z", "x", "y", "w"))
        self.assert_same_order(order, ("z", "x", "y", "w"), (("z", "x"), ("z", "y"), ("x", "w"), ("y", "w")))
        self.assertEqual(renamed(diamond(), diamond().names), diamond())

    def test_errors(self):
        self.assert_error(errors.WrongCount, (4, 3), renamed, diamond(), ["a", "b", "c"])
        self.assert_error(errors.WrongCount, (4, 5), renamed, diamond(), list("abcde"))
        self.assert_error(errors.WrongCount, (1, 0), renamed, one(), [])
        self.assert_error(errors.WrongCount, (4, 41), renamed, diamond(), [f"t{k}" for k in range(41)])
        self.assert_error(errors.InvalidName, ("B",), renamed, diamond(), ["a", "B", "c", "D"])
        self.assert_error(errors.DuplicateName, ("a",), renamed, diamond(), ["b", "a", "a", "b"])

    def test_which_error_goes_first(self):
        self.assert_error(errors.InvalidName, ("B",), renamed, diamond(), ["a", "a", "B"])
        self.assert_error(errors.DuplicateName, ("a",), renamed, diamond(), ["a", "a"])
        self.assert_error(errors.InvalidName, ("",), renamed, diamond(), [""])


class Matchings(unittest.TestCase):
    pairs = (("w", "a"), ("x", "b"), ("y", "c"), ("z", "d"))

    def other(self):
        return Order(["a", "b", "c", "d"], [("a", "b"), ("a", "c"), ("b", "d"), ("c", "d")])

    def test_pairs_in_any_sequence(self):
        for pairs in itertools.permutations(self.pairs):
            self.assertIs(is_matching(diamond(), self.other(), pairs), True)
            self.assertIs(is_matching(diamond(), self.other(), [list(pair) for pair in pairs]), True)
        self.assertIs(is_matching(order=diamond(), other=self.other(), pairs=list(self.pairs)), True)

    def test_every_way_to_pair(self):
        due = {("a", "b", "c", "d"), ("a", "c", "b", "d")}
        for seconds in itertools.permutations("abcd"):
            pairs = list(zip("wxyz", seconds))
            self.assertIs(is_matching(diamond(), self.other(), pairs), seconds in due)

    def test_a_pair_has_the_first_order_first(self):
        pairs = [(second, first) for first, second in self.pairs]
        self.assertIs(is_matching(diamond(), self.other(), pairs), False)
        self.assertIs(is_matching(self.other(), diamond(), pairs), True)

    def test_unknown_names(self):
        for wrong in (("q", "d"), ("z", "q"), ("q", "r"), ("Z", "d"), ("", "")):
            self.assertIs(is_matching(diamond(), self.other(), self.pairs[:3] + (wrong,)), False)
            self.assertIs(is_matching(diamond(), self.other(), self.pairs + (wrong,)), False)

    def test_repeated_names(self):
        for again in self.pairs + (("w", "d"), ("z", "a")):
            self.assertIs(is_matching(diamond(), self.other(), self.pairs + (again,)), False)
            self.assertIs(is_matching(diamond(), self.other(), self.pairs[:3] + (again,)), again == ("z", "d"))

    def test_missing_names(self):
        for count in range(4):
            self.assertIs(is_matching(diamond(), self.other(), self.pairs[:count]), False)
        self.assertIs(is_matching(diamond(), self.other(), []), False)
        self.assertIs(is_matching(one(), one(), ()), False)
        self.assertIs(is_matching(one(), one(), [("x", "x")]), True)

    def test_orders_of_unlike_size(self):
        self.assertIs(is_matching(one(), two(), [("x", "a")]), False)
        self.assertIs(is_matching(two(), one(), [("a", "x"), ("b", "x")]), False)
        self.assertIs(is_matching(two(), one(), [("a", "x")]), False)

    def test_orders_of_one_thing(self):
        for pair, due in ((("x", "y"), True), (("x", "x"), False), (("y", "y"), False), (("y", "x"), False)):
            self.assertIs(is_matching(one(), Order(["y"]), [pair]), due)
        self.assertIs(is_matching(one(), Order(["y"]), [("x", "y"), ("x", "y")]), False)

    def test_covers_must_be_carried_onto_all_covers(self):
        names = ["n", "a", "b", "c", "d", "o"]
        outer = [("n", "a"), ("n", "b"), ("c", "o"), ("d", "o")]
        first = Order(names, outer + [("a", "c"), ("b", "d")])
        second = Order(names, outer + [("a", "c"), ("b", "d"), ("a", "d")])
        same = [(name, name) for name in names]
        self.assertIs(is_matching(first, second, same), False)
        self.assertIs(is_matching(second, first, same), False)
        self.assertIs(is_matching(first, first, same), True)


if __name__ == "__main__":
    unittest.main()

"""The module evenodds.orders: points [3] and [6] to [10]."""

import unittest

from evenodds import errors
from evenodds.orders import Order, is_name
from samples import Asks, diamond, line, line_lists, one, triangle, two, wide, wide_lists


class Names(unittest.TestCase):
    def test_good_names(self):
        for text in ("a", "z", "0", "9", "-", "--", "a-b", "0a", "-a-", "a" * 24, "add", "none", "az09-"):
            self.assertIs(is_name(text), True, text)

    def test_wrong_names(self):
        for text in ("", "a" * 25, "A", "aB", "Z", "a b", " ", " a", "a ", "a_b", "_", "a\n", "\na", "\n", "a.b", ".",
                     "a,b", "a:", "a/b", "`", "{", "@", "[", "^", "~", "!", "+", "a" * 100):
            self.assertIs(is_name(text), False, text)

    def test_every_character(self):
        good = "abcdefghijklmnopqrstuvwxyz0123456789-"
        for character in ["\n"] + [chr(code) for code in range(32, 127)]:
            self.assertIs(is_name(character), character in good, character)
            self.assertIs(is_name("a" + character), character in good, character)

    def test_by_name(self):
        self.assertIs(is_name(text="a"), True)


class Errors(Asks, unittest.TestCase):
    """Each error of [8] alone, and the first item that decides within a class."""

    def test_invalid_name(self):
        for name in ("", "B", "a b", "a_b", "a\n", "a" * 25):
            self.assert_error(errors.InvalidName, (name,), Order, ["a", name], [])
        self.assert_error(errors.InvalidName, ("B",), Order, ["a", "B", "C"], [("a", "B"), ("B", "C")])
        self.assert_error(errors.InvalidName, ("C",), Order, ["C", "B", "a"], [("a", "B"), ("B", "C")])

    def test_duplicate_name(self):
        self.assert_error(errors.DuplicateName, ("a",), Order, ["a", "b", "a"], [("a", "b")])
        self.assert_error(errors.DuplicateName, ("a",), Order, ["a", "a"], [])
        # b stands first, but a is the first item that equals an earlier one.
        self.assert_error(errors.DuplicateName, ("a",), Order, ["b", "a", "a", "b"], [])

    def test_unknown_name(self):
        self.assert_error(errors.UnknownName, ("q",), Order, ["a", "b"], [("a", "b"), ("q", "b")])
        self.assert_error(errors.UnknownName, ("q",), Order, ["a", "b"], [("a", "b"), ("a", "q")])
        self.assert_error(errors.UnknownName, ("q",), Order, ["a"], [("q", "r")])
        self.assert_error(errors.UnknownName, ("r",), Order, ["a"], [("a", "r"), ("q", "a")])
        self.assert_error(errors.UnknownName, ("No Name\n",), Order, ["a"], [("a", "No Name\n")])
        self.assert_error(errors.UnknownName, ("",), Order, [], [("", "")])

    def test_duplicate_cover(self):
        self.assert_error(errors.DuplicateCover, ("a", "b"), Order, ["a", "b"], [("a", "b"), ("a", "b")])
        self.assert_error(errors.DuplicateCover, ("a", "b"), Order, ["a", "b"], [("a", "b"), ["a", "b"]])
        pairs = [("a", "b"), ("b", "c"), ("b", "c"), ("a", "b")]
        self.assert_error(errors.DuplicateCover, ("b", "c"), Order, ["a", "b", "c"], pairs)

    def test_too_many(self):
        self.assertEqual(wide(40).size, 40)
        self.assert_error(errors.TooMany, ("things", 40), Order, *wide_lists(41))
        self.assert_error(errors.TooMany, ("things", 40), Order, [f"t{k}" for k in range(41)])

    def test_ring_found(self):
        self.assert_error(errors.RingFound, ("a",), Order, ["a"], [("a", "a")])
        ring = [("a", "b"), ("b", "c"), ("c", "a")]
        self.assert_error(errors.RingFound, ("c",), Order, ["c", "b", "a"], ring)
        self.assert_error(errors.RingFound, ("b",), Order, ["b", "c", "a"], ring)
        self.assert_error(errors.RingFound, ("b",), Order, ["b", "a"], [("a", "b"), ("b", "a")])

    def test_a_thing_that_only_reaches_a_ring_does_not_count(self):
        pairs = [("a", "b"), ("b", "c"), ("c", "b"), ("c", "d")]
        for names in (["a", "d", "c", "b"], ["d", "a", "c", "b"]):
            self.assert_error(errors.RingFound, ("c",), Order, names, pairs)
        pairs = [("a", "b"), ("b", "b"), ("b", "c"), ("c", "d"), ("d", "c")]
        self.assert_error(errors.RingFound, ("b",), Order, ["a", "b", "c", "d"], pairs)
        self.assert_error(errors.RingFound, ("d",), Order, ["d", "b", "c", "a"], pairs)

    def test_a_long_ring(self):
        names, covers = line_lists(40)
        self.assert_error(errors.RingFound, ("t39",), Order, names[::-1], covers + [("t39", "t0")])

    def test_no_least(self):
        covers = [("a", "c"), ("b", "c")]
        self.assert_error(errors.NoEnd, ("least",), Order, ["a", "b", "c"], covers)

    def test_no_greatest(self):
        covers = [("a", "b"), ("a", "c")]
        self.assert_error(errors.NoEnd, ("greatest",), Order, ["a", "b", "c"], covers)

    def test_no_names_at_all(self):
        self.assert_error(errors.NoEnd, ("least",), Order, [])
        self.assert_error(errors.NoEnd, ("least",), Order, (), ())

    def test_wrong_rank(self):
        covers = [("a", "b"), ("b", "c"), ("a", "c")]
        self.assert_error(errors.WrongRank, ("a", "c"), Order, ["a", "b", "c"], covers)
        self.assert_error(errors.WrongRank, ("a", "c"), Order, ["a", "b", "c"], covers[::-1])

    def test_wrong_rank_tells_the_first_pair_in_the_sequence_passed(self):
        # Two covers are wrong: ranks are those of longest paths, a 0, b 1, c 2, d 3, e 4.
        covers = [("a", "b"), ("b", "c"), ("c", "d"), ("d", "e"), ("b", "d"), ("a", "e")]
        self.assert_error(errors.WrongRank, ("b", "d"), Order, list("abcde"), covers)
        self.assert_error(errors.WrongRank, ("a", "e"), Order, list("abcde"), covers[::-1])

    def test_wrong_rank_of_a_cover_that_is_doubled_by_no_path(self):
        # Two paths of unlike length: only the last cover of the short one is wrong, none is doubled.
        covers = [("n", "a"), ("a", "o"), ("n", "b"), ("b", "c"), ("c", "o")]
        self.assert_error(errors.WrongRank, ("a", "o"), Order, ["n", "a", "b", "c", "o"], covers)

    def test_too_high(self):
        self.assertEqual(line(10).height, 9)
        self.assert_error(errors.TooHigh, (10,), Order, *line_lists(11))
        self.assert_error(errors.TooHigh, (39,), Order, *line_lists(40))


class FirstOfSeveral(Asks, unittest.TestCase):
    """Two errors are due: the one whose class is listed first is raised."""

    def test_invalid_name_before_duplicate_name(self):
        self.assert_error(errors.InvalidName, ("B",), Order, ["a", "a", "B"], [])

    def test_duplicate_name_before_unknown_name(self):
        self.assert_error(errors.DuplicateName, ("a",), Order, ["a", "a"], [("q", "a")])

    def test_unknown_name_before_duplicate_cover(self):
        covers = [("a", "b"), ("a", "b"), ("b", "q")]
        self.assert_error(errors.UnknownName, ("q",), Order, ["a", "b"], covers)

    def test_duplicate_cover_before_too_many(self):
        names, covers = wide_lists(41)
        self.assert_error(errors.DuplicateCover, covers[0], Order, names, covers + covers[:1])

    def test_invalid_name_before_too_many(self):
        self.assert_error(errors.InvalidName, ("B",), Order, [f"t{k}" for k in range(41)] + ["B"], [])

    def test_unknown_name_before_no_end(self):
        self.assert_error(errors.UnknownName, ("q",), Order, [], [("q", "r")])

    def test_duplicate_cover_before_ring_found(self):
        self.assert_error(errors.DuplicateCover, ("a", "a"), Order, ["a"], [("a", "a"), ("a", "a")])

    def test_too_many_before_ring_found(self):
        names, covers = line_lists(41)
        self.assert_error(errors.TooMany, ("things", 40), Order, names, covers + [("t3", "t3")])

    def test_too_many_before_too_high(self):
        self.assert_error(errors.TooMany, ("things", 40), Order, *line_lists(41))

    def test_ring_found_before_no_end(self):
        self.assert_error(errors.RingFound, ("b",), Order, ["a", "b", "c"], [("b", "b")])

    def test_least_before_greatest(self):
        self.assert_error(errors.NoEnd, ("least",), Order, ["a", "b"], [])
        self.assert_error(errors.NoEnd, ("least",), Order, ["a", "b", "c", "d"], [("a", "b"), ("c", "d")])

    def test_no_end_before_wrong_rank(self):
        covers = [("a", "b"), ("b", "c"), ("a", "c"), ("a", "d")]
        self.assert_error(errors.NoEnd, ("greatest",), Order, list("abcd"), covers)
        covers = [("a", "b"), ("b", "c"), ("a", "c"), ("d", "c")]
        self.assert_error(errors.NoEnd, ("least",), Order, list("abcd"), covers)

    def test_wrong_rank_before_too_high(self):
        names, covers = line_lists(12)
        self.assert_error(errors.WrongRank, ("t0", "t2"), Order, names, covers + [("t0", "t2")])

    def test_no_end_before_too_high(self):
        names, covers = line_lists(12)
        self.assert_error(errors.NoEnd, ("greatest",), Order, names + ["u"], covers + [("t0", "u")])


class Sequences(Asks, unittest.TestCase):
    """Names, covers and what is counted: [7], [9], [10]."""

    def test_the_example_of_the_document(self):
        order = diamond()
        self.assert_same_order(order, ("w", "y", "x", "z"), (("w", "y"), ("w", "x"), ("y", "z"), ("x", "z")))
        self.assertEqual(order.height, 2)

    def test_things_of_one_rank_stand_in_the_given_sequence(self):
        covers = [("n", "b"), ("n", "a"), ("n", "c"), ("a", "o"), ("b", "o"), ("c", "o")]
        for middle in (["a", "b", "c"], ["c", "a", "b"], ["b", "c", "a"]):
            for names in (middle + ["o", "n"], ["o"] + middle + ["n"], [middle[0], "n"] + middle[1:] + ["o"]):
                for pairs in (covers, covers[::-1], sorted(covers)):
                    order = Order(names, pairs)
                    due = tuple([("n", name) for name in middle] + [(name, "o") for name in middle])
                    self.assert_same_order(order, ("n", *middle, "o"), due)

    def test_covers_are_sorted_by_both_places(self):
        order = triangle()
        self.assertEqual(order.names, ("none", "v0", "v1", "v2", "e0", "e1", "e2", "whole"))
        due = [("none", "v0"), ("none", "v1"), ("none", "v2"), ("v0", "e0"), ("v0", "e2"), ("v1", "e0"),
               ("v1", "e1"), ("v2", "e1"), ("v2", "e2"), ("e0", "whole"), ("e1", "whole"), ("e2", "whole")]
        self.assertEqual(order.covers, tuple(due))

    def test_lists_and_tuples(self):
        for names in (["b", "a"], ("b", "a")):
            for covers in ([("a", "b")], [["a", "b"]], (("a", "b"),), (["a", "b"],)):
                self.assert_same_order(Order(names, covers), ("a", "b"), (("a", "b"),))

    def test_no_covers_by_default(self):
        self.assertEqual(Order(["x"]), Order(["x"], []))
        self.assertEqual(Order(names=["x"]), Order(("x",), covers=()))
        self.assertEqual(Order(names=["a", "b"], covers=[("a", "b")]), two())

    def test_an_order_of_one_thing(self):
        order = one()
        self.assert_same_order(order, ("x",), ())
        self.assertEqual((order.height, order.weight, order.size), (0, -1, 1))
        self.assertEqual((order.least, order.greatest), ("x", "x"))
        self.assertEqual((order.rank("x"), order.place("x"), order.at_rank(0)), (0, 0, ("x",)))
        self.assertEqual((order.at_rank(1), order.at_rank(-1)), ((), ()))
        self.assertEqual((order.lowers("x"), order.uppers("x")), ((), ()))
        self.assertIs(order.is_below("x", "x"), False)
        self.assertIs(order.is_at_most("x", "x"), True)

    def test_height_weight_size_and_ends(self):
        for order, due in ((two(), (1, 0, 2, "a", "b")), (diamond(), (2, 1, 4, "w", "z")),
                           (triangle(), (3, 2, 8, "none", "whole")), (line(10), (9, 8, 10, "t0", "t9")),
                           (wide(40), (2, 1, 40, "n", "o"))):
            found = (order.height, order.weight, order.size, order.least, order.greatest)
            self.assertEqual(found, due)

    def test_a_rebuilt_order_is_equal(self):
        for order in (one(), two(), diamond(), triangle(), line(10), wide(40)):
            again = Order(order.names, order.covers)
            self.assertIs(again == order, True)
            self.assert_same_order(again, order.names, order.covers)

    def test_iteration(self):
        self.assertEqual(list(diamond()), ["w", "y", "x", "z"])
        order = triangle()
        self.assertEqual(tuple(order), order.names)
        self.assertEqual([name for name in one()], ["x"])
        self.assertEqual(list(zip(order, order)), list(zip(order.names, order.names)))

    def test_containment(self):
        order = diamond()
        for name in ("w", "x", "y", "z"):
            self.assertIs(name in order, True)
        for name in ("a", "W", "", "wx", "w\n", "no name"):
            self.assertIs(name in order, False)
            self.assertIs(name not in order, True)


class Equality(unittest.TestCase):
    def test_the_given_sequence_of_other_ranks_leaves_no_trace(self):
        other = Order(["w", "y", "z", "x"], [("y", "z"), ("x", "z"), ("w", "y"), ("w", "x")])
        self.assertIs(diamond() == other, True)
        self.assertIs(diamond() != other, False)

    def test_unlike_place_sequences(self):
        other = Order(["w", "x", "y", "z"], diamond().covers)
        self.assertIs(diamond() == other, False)
        self.assertIs(diamond() != other, True)

    def test_unlike_covers(self):
        names = ["n", "a", "b", "c", "d", "o"]
        outer = [("n", "a"), ("n", "b"), ("c", "o"), ("d", "o")]
        first = Order(names, outer + [("a", "c"), ("b", "d")])
        second = Order(names, outer + [("a", "d"), ("b", "c")])
        self.assertEqual(first.names, second.names)
        self.assertIs(first == second, False)

    def test_unlike_names(self):
        self.assertIs(one() == Order(["y"]), False)
        self.assertIs(one() == two(), False)

    def test_things_that_are_no_order(self):
        order = one()
        for thing in (None, "x", 1, ("x",), ["x"], (("x",), ()), {"x": 1}, object(), True, Order):
            self.assertIs(order == thing, False)
            self.assertIs(thing == order, False)
            self.assertIs(order != thing, True)


class Methods(Asks, unittest.TestCase):
    def test_rank_and_place(self):
        order = diamond()
        self.assertEqual([order.rank(name) for name in ("w", "x", "y", "z")], [0, 1, 1, 2])
        self.assertEqual([order.place(name) for name in ("w", "x", "y", "z")], [0, 2, 1, 3])
        long = line(10)
        for number in range(10):
            self.assertEqual(long.rank(f"t{number}"), number)
            self.assertEqual(long.place(f"t{number}"), number)

    def test_at_rank(self):
        order = diamond()
        self.assertEqual([order.at_rank(rank) for rank in range(3)], [("w",), ("y", "x"), ("z",)])
        for rank in (-1, -2, -3, 3, 4, 9, 10, 40, 10 ** 59, -10 ** 59):
            self.assertEqual(order.at_rank(rank), ())
        self.assertEqual(triangle().at_rank(2), ("e0", "e1", "e2"))

    def test_is_below(self):
        order = triangle()
        below = [(low, high) for low in order for high in order if order.is_below(low, high)]
        self.assertIn(("none", "whole"), below)
        self.assertIn(("v0", "e2"), below)
        self.assertNotIn(("v0", "e1"), below)
        self.assertNotIn(("e0", "v0"), below)
        self.assertEqual(len(below), 7 + 3 * 3 + 3)
        for name in order:
            self.assertIs(order.is_below(name, name), False)
            self.assertIs(order.is_at_most(name, name), True)
        for low in order:
            for high in order:
                self.assertIs(order.is_below(low, high), (low, high) in below)
                self.assertIs(order.is_at_most(low, high), low == high or (low, high) in below)

    def test_lowers_and_uppers(self):
        order = diamond()
        self.assertEqual([order.lowers(name) for name in order], [(), ("w",), ("w",), ("y", "x")])
        self.assertEqual([order.uppers(name) for name in order], [("y", "x"), ("z",), ("z",), ()])
        self.assertEqual(triangle().lowers("e2"), ("v0", "v2"))
        self.assertEqual(triangle().uppers("v2"), ("e1", "e2"))
        self.assertEqual(line(10).lowers("t5"), ("t4",))
        self.assertEqual(line(10).uppers("t5"), ("t6",))

    def test_unknown_names(self):
        order = diamond()
        for name in ("q", "W", "", "w\n", "No name"):
            for method in (order.rank, order.place, order.lowers, order.uppers):
                self.assert_error(errors.UnknownName, (name,), method, name)
            for method in (order.is_below, order.is_at_most):
                self.assert_error(errors.UnknownName, (name,), method, name, "w")
                self.assert_error(errors.UnknownName, (name,), method, "w", name)
                self.assert_error(errors.UnknownName, (name,), method, name, name)
        for method in (order.is_below, order.is_at_most):
            self.assert_error(errors.UnknownName, ("q",), method, "q", "p")

    def test_parameters_by_name(self):
        order = diamond()
        self.assertEqual((order.rank(name="x"), order.place(name="x")), (1, 2))
        self.assertEqual((order.lowers(name="x"), order.uppers(name="x")), (("w",), ("z",)))
        self.assertEqual(order.at_rank(rank=1), ("y", "x"))
        self.assertIs(order.is_below(high="z", low="w"), True)
        self.assertIs(order.is_at_most(high="w", low="z"), False)

    def test_each_method_stands_in_the_class_itself(self):
        for name in ("__init__", "__eq__", "__contains__", "__iter__", "rank", "place", "at_rank", "is_below",
                     "is_at_most", "lowers", "uppers", "least", "greatest", "size"):
            self.assertIn(name, vars(Order))

    def test_properties_are_only_read(self):
        for name in ("least", "greatest", "size"):
            with self.assertRaises(AttributeError):
                setattr(diamond(), name, "q")


if __name__ == "__main__":
    unittest.main()

"""The module evenodds.stretches: points [18] and [19]."""

import unittest

from evenodds import errors
from evenodds.orders import Order
from evenodds.stretches import inner_things, stretch, stretch_order, stretches
from samples import BIG, Asks, crooked, diamond, full, line, one, triangle, two

ENDS = (stretch, inner_things, stretch_order)


class Things(Asks, unittest.TestCase):
    def test_equal_ends(self):
        for order in (one(), diamond(), crooked()):
            for name in order:
                self.assertEqual(stretch(order, name, name), (name,))
                self.assertEqual(inner_things(order, name, name), ())
                self.assert_same_order(stretch_order(order, name, name), (name,), ())

    def test_neighbours(self):
        for order in (two(), diamond(), crooked(), triangle()):
            for low, high in order.covers:
                self.assertEqual(stretch(order, low, high), (low, high))
                self.assertEqual(inner_things(order, low, high), ())
                self.assert_same_order(stretch_order(order, low, high), (low, high), ((low, high),))

    def test_the_whole_order(self):
        for order in (one(), two(), diamond(), crooked(), triangle(), line(10), full(2, 3)):
            self.assertEqual(stretch(order, order.least, order.greatest), order.names)
            self.assertEqual(inner_things(order, order.least, order.greatest), order.names[1:-1])
            self.assertEqual(stretch_order(order, order.least, order.greatest), order)

    def test_a_part_by_place(self):
        order = crooked()
        self.assertEqual(stretch(order, "bot", "k"), ("bot", "b", "a", "k"))
        self.assertEqual(stretch(order, "b", "top"), ("b", "k", "j", "top"))
        self.assertEqual(stretch(order, "c", "top"), ("c", "x", "top"))
        self.assertEqual(inner_things(order, "bot", "k"), ("b", "a"))
        self.assertEqual(inner_things(order, "c", "top"), ("x",))

    def test_a_part_as_an_order(self):
        part = stretch_order(crooked(), "b", "top")
        self.assert_same_order(part, ("b", "k", "j", "top"), (("b", "k"), ("b", "j"), ("k", "top"), ("j", "top")))
        self.assertEqual(part.height, 2)
        part = stretch_order(crooked(), "bot", "x")
        self.assert_same_order(part, ("bot", "a", "c", "x"), (("bot", "a"), ("bot", "c"), ("a", "x"), ("c", "x")))
        part = stretch_order(line(6), "t2", "t4")
        self.assert_same_order(part, ("t2", "t3", "t4"), (("t2", "t3"), ("t3", "t4")))

    def test_the_height_is_the_length(self):
        for order in (crooked(), triangle(), full(3, 1, 2, 2)):
            for low, high in stretches(order, least_length=0):
                part = stretch_order(order, low, high)
                self.assertEqual(part.height, order.rank(high) - order.rank(low))
                self.assertEqual(part.names, stretch(order, low, high))

    def test_parameters_by_name(self):
        order = crooked()
        self.assertEqual(stretch(high="k", order=order, low="bot"), ("bot", "b", "a", "k"))
        self.assertEqual(inner_things(high="k", order=order, low="bot"), ("b", "a"))
        self.assertEqual(stretch_order(high="j", order=order, low="b").names, ("b", "j"))


class EndErrors(Asks, unittest.TestCase):
    def assert_end_error(self, expected, values, order, low, high):
        for function in ENDS:
            self.assert_error(expected, values, function, order, low, high)
            self.assert_error(expected, values, function, order=order, low=low, high=high)

    def test_unknown_names(self):
        for order in (one(), diamond(), crooked()):
            known = order.greatest
            self.assert_end_error(errors.UnknownName, ("q",), order, "q", known)
            self.assert_end_error(errors.UnknownName, ("q",), order, known, "q")
            self.assert_end_error(errors.UnknownName, ("q",), order, "q", "r")
            self.assert_end_error(errors.UnknownName, ("r",), order, "r", "q")
            self.assert_end_error(errors.UnknownName, ("q",), order, "q", "q")
            self.assert_end_error(errors.UnknownName, ("",), order, "", known)
            self.assert_end_error(errors.UnknownName, ("B\n",), order, known, "B\n")

    def test_not_at_most(self):
        self.assert_end_error(errors.NotBelow, ("x", "y"), diamond(), "x", "y")
        self.assert_end_error(errors.NotBelow, ("y", "x"), diamond(), "y", "x")
        self.assert_end_error(errors.NotBelow, ("z", "w"), diamond(), "z", "w")
        self.assert_end_error(errors.NotBelow, ("x", "w"), diamond(), "x", "w")
        # The rank fits, but no path leads from one to the other.
        self.assert_end_error(errors.NotBelow, ("c", "k"), crooked(), "c", "k")


class Pairs(unittest.TestCase):
    def test_the_stretch_sequence(self):
        # The names stand by place other than as texts.
        self.assertEqual(stretches(diamond()), (
            ("w", "y"), ("w", "x"), ("y", "z"), ("x", "z"), ("w", "z"),
        ))
        self.assertEqual(stretches(crooked()), (
            ("bot", "b"), ("bot", "a"), ("bot", "c"), ("b", "k"), ("b", "j"), ("a", "k"), ("a", "x"), ("c", "x"),
            ("k", "top"), ("j", "top"), ("x", "top"),
            ("bot", "k"), ("bot", "j"), ("bot", "x"), ("b", "top"), ("a", "top"), ("c", "top"),
            ("bot", "top"),
        ))

    def test_the_given_sequence_decides_among_equal_ranks(self):
        covers = diamond().covers
        self.assertEqual(stretches(Order(["x", "y", "z", "w"], covers)), (
            ("w", "x"), ("w", "y"), ("x", "z"), ("y", "z"), ("w", "z"),
        ))

    def test_least_lengths(self):
        order = diamond()
        ends = (("w", "w"), ("y", "y"), ("x", "x"), ("z", "z"))
        covers = (("w", "y"), ("w", "x"), ("y", "z"), ("x", "z"))
        self.assertEqual(stretches(order, least_length=0), ends + covers + (("w", "z"),))
        for least in (-1, -2, -BIG, -7 * BIG):
            self.assertEqual(stretches(order, least_length=least), stretches(order, least_length=0))
        self.assertEqual(stretches(order, least_length=1), covers + (("w", "z"),))
        self.assertEqual(stretches(order), stretches(order=order, least_length=1))
        self.assertEqual(stretches(order, least_length=2), (("w", "z"),))
        for least in (3, 4, BIG, 9 * BIG):
            self.assertEqual(stretches(order, least_length=least), ())

    def test_the_height_and_one_more(self):
        for order in (two(), line(10), crooked(), full(2, 2, 2)):
            ends = ((order.least, order.greatest),)
            self.assertEqual(stretches(order, least_length=order.height), ends)
            self.assertEqual(stretches(order, least_length=order.height + 1), ())

    def test_an_order_of_one_thing(self):
        self.assertEqual(stretches(one()), ())
        for least in (-BIG, -1, 0):
            self.assertEqual(stretches(one(), least_length=least), (("x", "x"),))
        for least in (1, 2, BIG):
            self.assertEqual(stretches(one(), least_length=least), ())

    def test_all_pairs_of_a_line(self):
        order = line(5)
        due = tuple((f"t{k}", f"t{k + length}") for length in range(1, 5) for k in range(5 - length))
        self.assertEqual(stretches(order), due)
        self.assertEqual(stretches(order, least_length=3), (("t0", "t3"), ("t1", "t4"), ("t0", "t4")))

    def test_the_least_length_is_passed_by_name_alone(self):
        self.assertRaises(TypeError, stretches, one(), 1)


if __name__ == "__main__":
    unittest.main()

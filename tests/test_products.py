"""The module evenodds.products: points [49] to [54]."""

import itertools
import random
import unittest

from evenodds import errors
from evenodds.absum import ab_sum
from evenodds.evencheck import is_even
from evenodds.orders import Order
from evenodds.products import laid, prism, product, pyramid, turned
from evenodds.relations import is_alike, is_matching, renamed
from samples import Asks, crooked, diamond, full, line, one, random_orders, skew, triangle, two, wide, widest


def sample_orders():
    return [one(), two(), diamond(), triangle(), crooked(), skew(), line(5), wide(7), full(1, 3, 2)]


def many_orders(seed, count):
    return sample_orders() + [order for order in random_orders(random.Random(seed), count)]


def at_rank(order):
    return [order.at_rank(rank) for rank in range(order.height + 1)]


class Turned(Asks, unittest.TestCase):
    """Point [49]."""

    def test_covers_are_exchanged(self):
        self.assert_same_order(turned(diamond()), ("z", "y", "x", "w"),
                               (("z", "y"), ("z", "x"), ("y", "w"), ("x", "w")))
        found = turned(order=crooked())
        self.assertEqual(found.names, ("top", "k", "j", "x", "b", "a", "c", "bot"))
        self.assertEqual(sorted(found.covers), sorted((high, low) for low, high in crooked().covers))

    def test_things_of_one_rank_stay_in_their_sequence(self):
        for order in many_orders(131, 30):
            found = turned(order)
            self.assertEqual(at_rank(found), at_rank(order)[::-1])
            for low, high in itertools.product(order.names, repeat=2):
                self.assertIs(found.is_below(low, high), order.is_below(high, low))
            self.assertEqual(turned(found), order)
            self.assertIs(is_even(found), is_even(order))
            if order.height > 0:
                self.assertEqual(ab_sum(found), ab_sum(order).reversed_words())

    def test_small_and_great_orders(self):
        self.assertEqual(turned(one()), one())
        self.assert_same_order(turned(two()), ("b", "a"), (("b", "a"),))
        for order in (wide(40), widest(), line(10)):
            self.assertEqual(turned(turned(order)), order)
            self.assertEqual(turned(order).height, order.height)


class Laid(Asks, unittest.TestCase):
    """Point [51]."""

    def test_small_orders(self):
        self.assert_same_order(laid(two(), two()), ("l0", "u1"), (("l0", "u1"),))
        self.assert_same_order(laid(lower=two(), upper=diamond()), ("l0", "u1", "u2", "u3"),
                               (("l0", "u1"), ("l0", "u2"), ("u1", "u3"), ("u2", "u3")))
        self.assert_same_order(laid(diamond(), two()), ("l0", "l1", "l2", "u1"),
                               (("l0", "l1"), ("l0", "l2"), ("l1", "u1"), ("l2", "u1")))
        self.assert_same_order(
            laid(line(3), diamond()), ("l0", "l1", "u1", "u2", "u3"),
            (("l0", "l1"), ("l1", "u1"), ("l1", "u2"), ("u1", "u3"), ("u2", "u3")),
        )

    def test_each_lower_thing_is_below_each_upper_one(self):
        found = laid(triangle(), crooked())
        self.assertEqual(found.names, ("l0", "l1", "l2", "l3", "l4", "l5", "l6", "u1", "u2", "u3", "u4", "u5", "u6",
                                       "u7"))
        for low, high in itertools.product(range(7), range(1, 8)):
            self.assertIs(found.is_below(f"l{low}", f"u{high}"), True)
        for part, letter, order in ((range(7), "l", triangle()), (range(1, 8), "u", crooked())):
            for low, high in itertools.product(part, repeat=2):
                self.assertIs(found.is_below(f"{letter}{low}", f"{letter}{high}"),
                              order.is_below(order.names[low], order.names[high]))

    def test_one_object_for_both(self):
        for order in sample_orders()[1:]:
            if order.height <= 5:
                found = laid(order, order)
                self.assertEqual(found, laid(order, Order(order.names, order.covers)))
                self.assertEqual((found.size, found.height), (2 * order.size - 2, 2 * order.height - 1))

    def test_names_do_not_depend_on_names(self):
        order = renamed(triangle(), [f"q-{k}" for k in range(8)])
        self.assertEqual(laid(order, order), laid(triangle(), triangle()))
        self.assertEqual(laid(order, diamond()), laid(triangle(), diamond()))
        self.assertEqual(product(two(), order), product(two(), triangle()))

    def test_places_of_two_digits(self):
        found = laid(wide(14), wide(14))
        due = ("l0",) + tuple(f"l{k}" for k in range(1, 13)) + tuple(f"u{k}" for k in range(1, 14))
        self.assertEqual(found.names, due)

    def test_letter_sums(self):
        for first, second in itertools.product(many_orders(132, 8), repeat=2):
            if first.height > 0 and second.height > 0:
                found = laid(first, second)
                self.assertEqual(ab_sum(found), ab_sum(first) * ab_sum(second))
                self.assertEqual(found.height, first.height + second.height - 1)
                if is_even(first) and is_even(second):
                    self.assertIs(is_even(found), True)

    def test_orders_of_one_thing(self):
        for first, second in ((one(), one()), (one(), diamond()), (diamond(), one()), (one(), wide(40)),
                              (wide(40), one()), (line(10), one())):
            self.assert_error(errors.TooLow, (0,), laid, first, second)

    def test_bounds(self):
        found = laid(wide(20), wide(22))
        self.assertEqual((found.size, found.height), (40, 3))
        found = laid(line(6), line(6))
        self.assertEqual((found.size, found.height), (10, 9))
        for first, second in ((wide(21), wide(22)), (wide(40), wide(40)), (wide(40), diamond()), (wide(5), wide(38)),
                              (widest(), line(5))):
            self.assert_error(errors.TooMany, ("things", 40), laid, first, second)
            self.assert_error(errors.TooMany, ("things", 40), laid, second, first)
        for first, second, height in ((line(6), line(7), 10), (line(10), line(10), 17), (line(10), diamond(), 10),
                                      (line(10), wide(32), 10), (full(2, 2, 2, 2), line(7), 10)):
            self.assert_error(errors.TooHigh, (height,), laid, first, second)
            self.assert_error(errors.TooHigh, (height,), laid, second, first)
        # With one thing more, TooMany goes first.
        self.assert_error(errors.TooMany, ("things", 40), laid, line(10), wide(33))


class Products(Asks, unittest.TestCase):
    """Point [52]."""

    def test_small_orders(self):
        self.assert_same_order(product(one(), one()), ("x0-0",), ())
        self.assert_same_order(product(left=two(), right=two()), ("x0-0", "x0-1", "x1-0", "x1-1"), (
            ("x0-0", "x0-1"), ("x0-0", "x1-0"), ("x0-1", "x1-1"), ("x1-0", "x1-1")))
        self.assert_same_order(product(two(), line(3)), ("x0-0", "x0-1", "x1-0", "x0-2", "x1-1", "x1-2"), (
            ("x0-0", "x0-1"), ("x0-0", "x1-0"), ("x0-1", "x0-2"), ("x0-1", "x1-1"), ("x1-0", "x1-1"),
            ("x0-2", "x1-2"), ("x1-1", "x1-2")))

    def test_orders_of_one_thing(self):
        for order in sample_orders() + [wide(40), line(10)]:
            left, right = product(one(), order), product(order, one())
            self.assertEqual(left, renamed(order, [f"x0-{k}" for k in range(order.size)]))
            self.assertEqual(right, renamed(order, [f"x{k}-0" for k in range(order.size)]))

    def test_at_most_in_both_members(self):
        for left, right in ((triangle(), two()), (diamond(), crooked()), (line(4), wide(6)), (skew(), line(3))):
            found = product(left, right)
            self.assertEqual(found.size, left.size * right.size)
            self.assertEqual(found.height, left.height + right.height)
            for (i, x), (j, y), (k, z), (m, w) in itertools.product(
                enumerate(left.names), enumerate(right.names), enumerate(left.names), enumerate(right.names)
            ):
                self.assertIs(found.is_at_most(f"x{i}-{j}", f"x{k}-{m}"),
                              left.is_at_most(x, z) and right.is_at_most(y, w))

    def test_by_rank_and_then_as_given(self):
        for left, right in ((triangle(), two()), (diamond(), diamond()), (wide(13), line(3)), (two(), wide(12))):
            given = [(left.rank(x) + right.rank(y), i, j)
                     for i, x in enumerate(left.names) for j, y in enumerate(right.names)]
            self.assertEqual(product(left, right).names, tuple(f"x{i}-{j}" for _, i, j in sorted(given)))

    def test_even_exactly_if_both_are(self):
        orders = [one(), two(), diamond(), line(3), full(2, 2), skew(), full(2, 1)]
        for left, right in itertools.product(orders, repeat=2):
            if left.size * right.size <= 40:
                self.assertIs(is_even(product(left, right)), is_even(left) and is_even(right))

    def test_one_object_for_both(self):
        for order in (one(), two(), diamond(), line(6)):
            if 2 * order.height <= 9:
                self.assertEqual(product(order, order), product(order, Order(order.names, order.covers)))

    def test_turned_products_are_matched(self):
        left, right = product(crooked(), two()), product(two(), crooked())
        pairs = [(f"x{i}-{j}", f"x{j}-{i}") for i in range(8) for j in range(2)]
        self.assertIs(is_matching(left, right, pairs), True)

    def test_bounds(self):
        for first, second in ((wide(8), line(5)), (wide(20), two()), (wide(40), one()), (line(10), one()),
                              (line(5), line(6)), (line(4), line(7)), (wide(4), line(8))):
            found = product(first, second)
            self.assertEqual((found.size, found.height), (first.size * second.size, first.height + second.height))
        for first, second in ((wide(21), two()), (wide(7), wide(6)), (wide(40), wide(40)), (line(10), line(5)),
                              (line(9), line(5)), (wide(40), two()), (widest(), line(10))):
            self.assert_error(errors.TooMany, ("things", 40), product, first, second)
            self.assert_error(errors.TooMany, ("things", 40), product, second, first)
        for first, second, height in ((line(10), two(), 10), (line(10), line(4), 12), (line(10), diamond(), 11),
                                      (line(8), line(4), 10), (line(8), line(5), 11), (line(6), line(6), 10)):
            self.assert_error(errors.TooHigh, (height,), product, first, second)
            self.assert_error(errors.TooHigh, (height,), product, second, first)


class Pyramids(Asks, unittest.TestCase):
    """Point [53]."""

    def test_small_orders(self):
        self.assert_same_order(pyramid(one()), ("b0", "t0"), (("b0", "t0"),))
        self.assert_same_order(pyramid(order=two()), ("b0", "b1", "t0", "t1"),
                               (("b0", "b1"), ("b0", "t0"), ("b1", "t1"), ("t0", "t1")))
        self.assert_same_order(pyramid(diamond()), ("b0", "b1", "b2", "t0", "b3", "t1", "t2", "t3"), (
            ("b0", "b1"), ("b0", "b2"), ("b0", "t0"), ("b1", "b3"), ("b1", "t1"), ("b2", "b3"), ("b2", "t2"),
            ("t0", "t1"), ("t0", "t2"), ("b3", "t3"), ("t1", "t3"), ("t2", "t3")))

    def test_relation(self):
        for order in sample_orders():
            found = pyramid(order)
            self.assertEqual((found.size, found.height), (2 * order.size, order.height + 1))
            for (k, x), (m, y) in itertools.product(enumerate(order.names), repeat=2):
                for letter in "bt":
                    self.assertIs(found.is_below(f"{letter}{k}", f"{letter}{m}"), order.is_below(x, y))
                self.assertIs(found.is_below(f"b{k}", f"t{m}"), order.is_at_most(x, y))
                self.assertIs(found.is_below(f"t{k}", f"b{m}"), False)

    def test_a_product_with_two_things(self):
        for order in sample_orders():
            pairs = [("bt"[j] + str(i), f"x{i}-{j}") for i in range(order.size) for j in range(2)]
            self.assertIs(is_matching(pyramid(order), product(order, two()), pairs), True)
            self.assertIs(is_even(pyramid(order)), is_even(order))

    def test_places_of_two_digits(self):
        bottom, top = [f"b{k}" for k in range(14)], [f"t{k}" for k in range(14)]
        self.assertEqual(pyramid(wide(14)).names, tuple(bottom[:13] + top[:1] + bottom[13:] + top[1:]))

    def test_bounds(self):
        self.assertEqual((pyramid(wide(20)).size, pyramid(line(9)).height), (40, 9))
        for order in (wide(21), wide(40), widest(), full(2, 2, 2, 2, 2, 2, 2, 5)):
            self.assert_error(errors.TooMany, ("things", 40), pyramid, order)
        for order in (line(10), full(2, 2, 2, 2, 2, 2, 2, 2), full(3, 3, 2, 2, 2, 2, 2, 2)):
            self.assert_error(errors.TooHigh, (10,), pyramid, order)


class Prisms(Asks, unittest.TestCase):
    """Point [54]."""

    def test_small_orders(self):
        self.assert_same_order(prism(two()), ("n", "f1", "g1", "w1"),
                               (("n", "f1"), ("n", "g1"), ("f1", "w1"), ("g1", "w1")))
        self.assert_same_order(prism(order=line(3)), ("n", "f1", "g1", "f2", "g2", "w1", "w2"), (
            ("n", "f1"), ("n", "g1"), ("f1", "f2"), ("f1", "w1"), ("g1", "g2"), ("g1", "w1"), ("f2", "w2"),
            ("g2", "w2"), ("w1", "w2")))
        self.assertEqual(at_rank(prism(diamond())), [
            ("n",), ("f1", "f2", "g1", "g2"), ("f3", "g3", "w1", "w2"), ("w3",)])

    def test_relation(self):
        for order in sample_orders()[1:]:
            found = prism(order)
            self.assertEqual((found.size, found.height), (3 * order.size - 2, order.height + 1))
            self.assertEqual(found.least, "n")
            for (k, x), (m, y) in itertools.product(list(enumerate(order.names))[1:], repeat=2):
                for letter in "fgw":
                    self.assertIs(found.is_below("n", f"{letter}{m}"), True)
                    self.assertIs(found.is_below(f"{letter}{k}", f"{letter}{m}"), order.is_below(x, y))
                for letter in "fg":
                    self.assertIs(found.is_below(f"{letter}{k}", f"w{m}"), order.is_at_most(x, y))
                    self.assertIs(found.is_below(f"w{k}", f"{letter}{m}"), False)
                self.assertIs(found.is_below(f"f{k}", f"g{m}"), False)
                self.assertIs(found.is_below(f"g{k}", f"f{m}"), False)

    def test_given_sequence_within_a_rank(self):
        for order in sample_orders()[1:] + [wide(14)]:
            given = ["n"] + [f"{letter}{k}" for letter in "fgw" for k in range(1, order.size)]
            found = prism(order)
            self.assertEqual(list(found.names), sorted(given, key=lambda name: (found.rank(name), given.index(name))))

    def test_even_orders(self):
        for order in (two(), diamond(), triangle(), full(2, 2, 2)):
            self.assertIs(is_even(prism(order)), True)
        self.assertIs(is_even(prism(line(3))), False)

    def test_an_order_of_one_thing(self):
        self.assert_error(errors.TooLow, (0,), prism, one())

    def test_bounds(self):
        self.assertEqual((prism(wide(14)).size, prism(line(9)).height), (40, 9))
        for order in (wide(15), wide(40), widest(), full(1, 1, 1, 1, 1, 2, 3, 3)):
            self.assert_error(errors.TooMany, ("things", 40), prism, order)
        for order in (line(10), full(1, 1, 1, 1, 2, 2, 2, 2)):
            self.assert_error(errors.TooHigh, (10,), prism, order)

    def test_no_names_of_other_orders_matter(self):
        order = renamed(crooked(), ["n", "f1", "g1", "w1", "b0", "t0", "l1", "u1"])
        for function in (prism, pyramid):
            self.assertEqual(function(order), function(crooked()))
        self.assertEqual(product(order, two()), product(crooked(), two()))
        self.assertEqual(laid(order, order), laid(crooked(), crooked()))
        self.assertIs(is_alike(turned(order), order), False)


if __name__ == "__main__":
    unittest.main()

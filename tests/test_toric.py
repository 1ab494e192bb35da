"""The module evenodds.toric: points [76] to [80]."""

import itertools
import random
import unittest

from evenodds import errors
from evenodds.absum import ab_sum
from evenodds.cdread import cd_sum
from evenodds.evencheck import is_even
from evenodds.faces import cross, cube, polygon, simplex
from evenodds.products import product, pyramid
from evenodds.stretches import stretch_order, stretches
from evenodds.toric import (
    cut_row,
    long_of_sum,
    long_parts,
    long_row,
    minus_row,
    short_of_sum,
    short_row,
    short_turn,
    times_rows,
    unmirrored_item,
)
from evenodds.words import WordSum, single, zero_sum
from samples import (
    BIG,
    Asks,
    beside,
    crooked,
    diamond,
    full,
    line,
    one,
    random_orders,
    skew,
    some_sums,
    triangle,
    two,
    wide,
    widest,
)
from told_samples import even_orders


def many_orders(seed, count):
    orders = [one(), two(), diamond(), triangle(), crooked(), skew(), beside(), line(3), line(10), wide(7)]
    return orders + random_orders(random.Random(seed), count)


def filled(row, size):
    return row + (0,) * (size - len(row))


def plus(rows):
    return tuple(map(sum, zip(*rows)))


class Rows(Asks, unittest.TestCase):
    """Point [76]."""

    def test_products(self):
        for first, second, due in (
            ([1], [1], (1,)), ([2], [3, 4], (6, 8)), ([1, 1], [1, 1], (1, 2, 1)), ([1, -1], [1, 1], (1, 0, -1)),
            ([0], [5, 6], (0, 0)), ([0, 0], [0, 0, 0], (0, 0, 0, 0)), ([1, 0], [1, 0, 0], (1, 0, 0, 0)),
            ([0, 1], [0, 1], (0, 0, 1)), ([BIG, 1], [BIG, -1], (BIG * BIG, 0, -1)),
            ([1, 2, 3], [4, 5], (4, 13, 22, 15)),
            ([1] * 20, [1] * 20, tuple(range(1, 21)) + tuple(range(19, 0, -1))),
        ):
            self.assertEqual(times_rows(first, second), due)
            self.assertEqual(times_rows(first=tuple(second), second=tuple(first)), due)

    def test_empty_rows(self):
        for first, second in (([], [1]), ([1], []), ([], []), ((), (0,)), ([1, 2], ())):
            self.assert_error(errors.WrongCount, (1, 0), times_rows, first, second)
        self.assert_error(errors.WrongCount, (1, 0), cut_row, [])
        self.assert_error(errors.WrongCount, (1, 0), cut_row, ())

    def test_powers(self):
        self.assertEqual(minus_row(0), (1,))
        self.assertEqual(minus_row(exponent=1), (-1, 1))
        self.assertEqual(minus_row(2), (1, -2, 1))
        self.assertEqual(minus_row(3), (-1, 3, -3, 1))
        self.assertEqual(minus_row(9), (-1, 9, -36, 84, -126, 126, -84, 36, -9, 1))
        for exponent in range(9):
            self.assertEqual(minus_row(exponent + 1), times_rows(minus_row(exponent), (-1, 1)))
        for exponent in (-1, -2, 10, 11, BIG, -BIG):
            self.assert_error(errors.InvalidSize, (exponent,), minus_row, exponent)

    def test_cut_rows(self):
        for row, due in (([5], (5,)), ([5, 7], (5,)), ([5, 7, 8], (5, 2)), ([5, 7, 8, 9], (5, 2)),
                         ([1, 5, 5, 1], (1, 4)), ([1, 2, 4, 8, 16], (1, 1, 2)), ([0, 0, 0], (0, 0)),
                         ([3, -1, BIG], (3, -4)), (list(range(20)), (0,) + (1,) * 9), ([-2], (-2,))):
            self.assertEqual(cut_row(row), due)
            self.assertEqual(cut_row(numbers=tuple(row)), due)

    def test_unmirrored_items(self):
        for row, due in (([], None), ([7], None), ([1, 1], None), ([1, 2], (0, 1, 2)), ([1, 2, 1], None),
                         ([1, 2, 3], (0, 1, 3)), ([1, 2, 3, 1], (1, 2, 3)), ([1, 5, 0, 6, 1], (1, 5, 6)),
                         ([1, 5, 6, 5, 1], None), ([0, 0, BIG, -BIG, 0, 0], (2, BIG, -BIG)), ([0, 1], (0, 0, 1))):
            self.assertEqual(unmirrored_item(row), due)
            self.assertEqual(unmirrored_item(numbers=tuple(row)), due)


class Orders(Asks, unittest.TestCase):
    """Points [77] and [78]."""

    def test_small_orders(self):
        for order, long, short in ((two(), (1,), (1,)), (diamond(), (1, 1), (1,)), (triangle(), (1, 1, 1), (1, 0)),
                                   (line(3), (0, 1), (0,)), (wide(40), (37, 1), (37,)), (line(4), (0, -1, 1), (0, -1)),
                                   (cube(3), (1, 5, 5, 1), (1, 4)), (skew(), (1, 1, 1), (1, 0))):
            self.assertEqual(long_row(order), long)
            self.assertEqual(long_row(order=order), long)
            self.assertEqual(short_row(order), short)
            self.assertEqual(short_row(order=order), short)

    def test_an_order_of_one_thing(self):
        self.assertEqual((short_row(one()), short_turn(one())), ((1,), (1,)))
        self.assert_error(errors.TooLow, (0,), long_row, one())
        self.assert_error(errors.TooLow, (0,), long_parts, one())

    def test_lengths(self):
        for order in many_orders(251, 30):
            self.assertEqual(len(short_turn(order)), order.height + 1)
            self.assertEqual(len(short_row(order)), max(order.height - 1, 0) // 2 + 1)
            if order.height > 0:
                self.assertEqual(len(long_row(order)), order.height)
                self.assertEqual(short_row(order), cut_row(long_row(order)))

    def test_parts(self):
        self.assertEqual(long_parts(two()), (("a", (1,)),))
        self.assertEqual(long_parts(order=diamond()), (("w", (-1, 1)), ("y", (1, 0)), ("x", (1, 0))))
        self.assertEqual(long_parts(line(3)), (("t0", (-1, 1)), ("t1", (1, 0))))
        for order in many_orders(252, 30):
            if order.height > 0:
                parts = long_parts(order)
                self.assertEqual([top for top, _ in parts], list(order.names[:-1]))
                self.assertEqual(plus([part for _, part in parts]), long_row(order))
                for top, part in parts:
                    lower = short_row(stretch_order(order, order.least, top))
                    due = times_rows(lower, minus_row(order.weight - order.rank(top)))
                    self.assertEqual(part, filled(due, order.height))

    def test_even_exactly_if_all_long_rows_are_mirrored(self):
        for order in many_orders(253, 40) + even_orders():
            rows = [long_row(stretch_order(order, low, high)) for low, high in stretches(order)]
            self.assertIs(is_even(order), all(row == row[::-1] for row in rows))
            self.assertIs(is_even(order), all(unmirrored_item(row) is None for row in rows))

    def test_short_turns(self):
        self.assertEqual(short_turn(order=two()), (0, 1))
        self.assertEqual(short_turn(diamond()), (0, 0, 1))
        self.assertEqual(short_turn(line(3)), (0, -1, 1))
        self.assertEqual(short_turn(wide(5)), (0, 1, 1))
        for order in even_orders() + [one()]:
            self.assertEqual(short_turn(order), filled(short_row(order), order.height + 1)[::-1])
        for order in many_orders(254, 30):
            parts = [filled(times_rows(short_row(stretch_order(order, order.least, top)),
                                       minus_row(order.height - order.rank(top))), order.height + 1) for top in order]
            self.assertEqual(short_turn(order), plus(parts))

    def test_height_nine(self):
        for order in (widest(), line(10), full(2, 2, 2, 2, 2, 2, 2, 2)):
            row = long_row(order)
            self.assertEqual((len(row), len(short_row(order)), len(short_turn(order))), (9, 5, 10))
            self.assertIs(unmirrored_item(row) is None, is_even(order))


class Sums(Asks, unittest.TestCase):
    """Point [79]."""

    def test_small_sums(self):
        for letters, weight, terms, long, short in (
            ("ab", 0, [("", 1)], (1,), (1,)), ("ab", 0, [("", -BIG)], (-BIG,), (-BIG,)),
            ("cd", 0, [("", 7)], (7,), (7,)), ("ab", 1, [("a", 1)], (0, 1), (0,)),
            ("ab", 1, [("b", 1)], (1, 0), (1,)), ("cd", 1, [("c", 1)], (1, 1), (1,)),
            ("cd", 2, [("cc", 1), ("d", 1)], (1, 1, 1), (1, 0)), ("cd", 2, [("d", 1)], (0, 1, 0), (0, 1)),
            ("cd", 2, [("cc", 1)], (1, 0, 1), (1, -1)), ("ab", 2, [("ab", 3), ("bb", 3)], (3, 0, 0), (3, -3)),
        ):
            word_sum = WordSum(letters, weight, terms)
            self.assertEqual(long_of_sum(word_sum), long)
            self.assertEqual(long_of_sum(word_sum=word_sum), long)
            self.assertEqual(short_of_sum(word_sum), short)
            self.assertEqual(short_of_sum(word_sum=word_sum), short)

    def test_zero_sums(self):
        for letters in ("ab", "cd"):
            for weight in range(10):
                self.assertEqual(long_of_sum(zero_sum(letters, weight)), (0,) * (weight + 1))
                self.assertEqual(short_of_sum(zero_sum(letters, weight)), (0,) * (weight // 2 + 1))

    def test_orders(self):
        for order in many_orders(255, 40) + even_orders() + [wide(40), widest()]:
            if order.height > 0:
                self.assertEqual(long_of_sum(ab_sum(order)), long_row(order))
                self.assertEqual(short_of_sum(ab_sum(order)), short_row(order))
                if is_even(order):
                    self.assertEqual(long_of_sum(cd_sum(order)), long_row(order))
                    self.assertEqual(short_of_sum(cd_sum(order)), short_row(order))

    def test_a_power_of_e(self):
        # In a and b, a power of e = a - b is told by all words, with a sign for each b.
        for weight in range(10):
            words = ["".join(word) for word in itertools.product("ab", repeat=weight)]
            word_sum = WordSum("ab", weight, [(word, (-1) ** word.count("b")) for word in words])
            self.assertEqual(long_of_sum(word_sum), minus_row(weight))

    def test_rows_add_over_sums(self):
        source = random.Random(256)
        for letters, weight in [("ab", weight) for weight in range(8)] + [("cd", weight) for weight in range(10)]:
            first, second = some_sums(letters, weight, source, 3)[1:]
            self.assertEqual(long_of_sum(first + second), plus([long_of_sum(first), long_of_sum(second)]))
            self.assertEqual(long_of_sum(first * 5), tuple(5 * item for item in long_of_sum(first)))
            self.assertEqual(short_of_sum(first), cut_row(long_of_sum(first)))

    def test_sums_of_letters_cd_have_mirrored_rows(self):
        source = random.Random(257)
        for weight in range(10):
            for word_sum in some_sums("cd", weight, source, 5) + [single("cd", "c" * weight)]:
                self.assertIsNone(unmirrored_item(long_of_sum(word_sum)))


class MadeOrders(unittest.TestCase):
    """Point [80]."""

    def test_products(self):
        orders = [one(), two(), diamond(), triangle(), line(3), wide(5), full(2, 1), skew(), line(4)]
        for first, second in itertools.product(orders, repeat=2):
            if first.size * second.size <= 40:
                found = product(first, second)
                due = times_rows(short_row(first), short_row(second))
                self.assertEqual(short_row(found), filled(due, len(short_row(found))))

    def test_pyramids(self):
        for order in many_orders(258, 30):
            if order.size <= 20 and order.height < 9:
                found = short_row(pyramid(order))
                self.assertEqual(found, filled(short_row(order), len(found)))

    def test_long_rows(self):
        for size in range(2, 20):
            self.assertEqual(long_row(polygon(size)), (1, size - 2, 1))
        self.assertEqual(long_row(cube(3)), (1, 5, 5, 1))
        self.assertEqual(long_row(cross(3)), (1, 3, 3, 1))
        for size in range(1, 6):
            self.assertEqual(long_row(simplex(size)), (1,) * size)


if __name__ == "__main__":
    unittest.main()

"""The module evenodds.recur: points [42] to [44]."""

import random
import unittest

from evenodds import errors
from evenodds.absum import ab_sum
from evenodds.cdread import cd_sum
from evenodds.cdwords import spread
from evenodds.evencheck import is_even, uneven_stretch
from evenodds.products import laid, prism, product, pyramid
from evenodds.recur import ab_sum_by_tops, cd_by_tops, doubled_cd, minus_power, square_power, top_parts
from evenodds.words import WordSum, power
from samples import (
    BIG,
    Asks,
    all_words,
    beside,
    crooked,
    diamond,
    full,
    line,
    one,
    random_orders,
    skew,
    triangle,
    two,
    wide,
    widest,
)


class Powers(Asks, unittest.TestCase):
    """Point [42]."""

    def test_minus_powers(self):
        for exponent in range(10):
            due = tuple((word, (-1) ** word.count("b")) for word in all_words("ab", exponent))
            self.assert_sum(minus_power(exponent), "ab", exponent, due)
            self.assert_sum(minus_power(exponent=exponent), "ab", exponent, due)

    def test_square_powers(self):
        for exponent in range(5):
            due = power(WordSum("cd", 2, [("cc", 1), ("d", -2)]), exponent)
            self.assert_sum(square_power(exponent), "cd", 2 * exponent, due.terms)
            self.assert_sum(square_power(exponent=exponent), "cd", 2 * exponent, due.terms)
            self.assertEqual(spread(square_power(exponent)), minus_power(2 * exponent))
        self.assert_sum(square_power(0), "cd", 0, (("", 1),))
        self.assert_sum(square_power(2), "cd", 4, (("cccc", 1), ("ccd", -2), ("dcc", -2), ("dd", 4)))

    def test_exponents_out_of_bounds(self):
        for exponent in (10, 11, 60, 61, BIG):
            self.assert_error(errors.InvalidWeight, (exponent,), minus_power, exponent)
        for exponent in (5, 6, 9, 60, 61, BIG):
            self.assert_error(errors.InvalidWeight, (2 * exponent,), square_power, exponent)
        for exponent in (-1, -2, -60, -61, -BIG):
            self.assert_error(errors.InvalidSize, (exponent,), minus_power, exponent)
            self.assert_error(errors.InvalidSize, (exponent,), square_power, exponent)


class Tops(Asks, unittest.TestCase):
    """Point [43]."""

    def assert_parts(self, order, due):
        found = top_parts(order)
        self.assertIs(found.__class__, tuple)
        self.assertEqual({pair.__class__ for pair in found}, {tuple} if due else set())
        self.assertEqual([top for top, _ in found], [top for top, _ in due])
        for (_, part), (_, terms) in zip(found, due):
            self.assert_sum(part, "ab", order.weight, terms)

    def test_parts(self):
        self.assert_parts(two(), [])
        self.assert_parts(diamond(), [("y", (("b", 1),)), ("x", (("b", 1),))])
        low, high = (("ba", 1), ("bb", -1)), (("ab", 1), ("bb", 1))
        self.assert_parts(triangle(), [("v0", low), ("v1", low), ("v2", low), ("e0", high), ("e1", high), ("e2", high)])
        self.assert_parts(line(4), [("t1", low), ("t2", (("ab", 1),))])
        self.assertEqual(top_parts(order=two()), ())

    def test_sums(self):
        for order in [two(), diamond(), triangle(), crooked(), skew(), beside(), line(10), wide(40), widest()] + [
            order for order in random_orders(random.Random(111), 40) if order.height > 0
        ]:
            self.assertEqual(ab_sum_by_tops(order), ab_sum(order))
            self.assertEqual(ab_sum_by_tops(order=order), ab_sum(order))
            self.assertEqual([top for top, _ in top_parts(order)], list(order.names[1:-1]))
            total = minus_power(order.weight)
            for _, part in top_parts(order=order):
                self.assertEqual((part.letters, part.weight), ("ab", order.weight))
                total = total + part
            self.assertEqual(total, ab_sum(order))

    def test_an_order_of_one_thing(self):
        self.assert_error(errors.TooLow, (0,), top_parts, one())
        self.assert_error(errors.TooLow, (0,), ab_sum_by_tops, one())


class Doubled(Asks, unittest.TestCase):
    """Point [44]."""

    def test_small_orders(self):
        self.assert_sum(doubled_cd(two()), "cd", 0, (("", 2),))
        self.assert_sum(doubled_cd(order=diamond()), "cd", 1, (("c", 2),))
        self.assert_sum(doubled_cd(triangle()), "cd", 2, (("cc", 2), ("d", 2)))
        self.assert_sum(cd_by_tops(two()), "cd", 0, (("", 1),))
        self.assert_sum(cd_by_tops(order=diamond()), "cd", 1, (("c", 1),))
        self.assert_sum(cd_by_tops(triangle()), "cd", 2, (("cc", 1), ("d", 1)))

    def test_even_orders(self):
        orders = [full(*[2] * count) for count in range(9)] + [laid(triangle(), triangle()), prism(triangle())]
        orders += [pyramid(pyramid(two())), product(triangle(), two()), prism(prism(two())), pyramid(triangle())]
        orders += [laid(laid(triangle(), triangle()), laid(triangle(), triangle()))]
        orders += [order for order in random_orders(random.Random(112), 150) if order.height > 0 and is_even(order)]
        self.assertGreater(len(orders), 30)
        self.assertEqual({order.height for order in orders} >= set(range(1, 10)), True)
        for order in orders:
            self.assertEqual(cd_by_tops(order), cd_sum(order))
            self.assertEqual(doubled_cd(order), 2 * cd_sum(order))

    def test_uneven_orders(self):
        for order in [line(3), line(10), crooked(), skew(), beside(), wide(40), widest(), full(1, 2)] + [
            order for order in random_orders(random.Random(113), 30) if not is_even(order)
        ]:
            for function in (doubled_cd, cd_by_tops):
                self.assert_error(errors.Uneven, uneven_stretch(order), function, order)
        self.assert_error(errors.Uneven, ("bot", "j", 2, 1), doubled_cd, crooked())
        self.assert_error(errors.Uneven, ("n", "o", 2, 38), cd_by_tops, wide(40))

    def test_an_order_of_one_thing(self):
        self.assert_error(errors.TooLow, (0,), doubled_cd, one())
        self.assert_error(errors.TooLow, (0,), cd_by_tops, one())


if __name__ == "__main__":
    unittest.main()

"""The module evenodds.moebius: points [32] to [35]."""

import itertools
import random
import unittest

from evenodds import errors
from evenodds.counts import beta
from evenodds.evencheck import is_even, uneven_stretch
from evenodds.moebius import (
    is_mu_table,
    mu,
    mu_by_struck,
    mu_table,
    mu_without,
    selected,
    signed_total,
    unlike_mu,
)
from evenodds.orders import Order
from evenodds.ranksets import rank_sets
from evenodds.stretches import stretch, stretches
from samples import WRONG_RANKS, Asks, crooked, diamond, full, line, one, random_orders, triangle, two, wide, widest


def sample_orders():
    return [one(), two(), diamond(), triangle(), crooked(), line(3), line(10), wide(6), full(2, 2, 2), full(1, 3, 2)]


class Numbers(Asks, unittest.TestCase):
    """Point [32]."""

    def test_numbers(self):
        for order, low, high, number in (
            (diamond(), "w", "z", 1), (diamond(), "w", "x", -1), (diamond(), "x", "x", 1), (diamond(), "x", "y", 0),
            (diamond(), "z", "w", 0), (line(3), "t0", "t2", 0), (line(10), "t0", "t9", 0), (line(10), "t3", "t4", -1),
            (wide(6), "n", "o", 3), (wide(40), "n", "o", 37), (triangle(), "none", "whole", -1),
            (crooked(), "bot", "top", 0), (crooked(), "bot", "j", 0), (crooked(), "bot", "k", 1),
            (crooked(), "c", "k", 0), (one(), "x", "x", 1), (two(), "a", "b", -1), (two(), "b", "a", 0),
            (full(3, 4, 5), "n", "o", 24), (full(3, 4), "n", "o", -6),
        ):
            self.assertEqual(mu(order, low, high), number, (low, high))
            self.assertEqual(mu(order=order, low=low, high=high), number)

    def test_the_sums_are_zero(self):
        for order in sample_orders():
            for low, high in stretches(order):
                self.assertEqual(sum(mu(order, low, name) for name in stretch(order, low, high)), 0)
                self.assertEqual(sum(mu(order, name, high) for name in stretch(order, low, high)), 0)

    def test_unknown_names(self):
        for order in (one(), diamond()):
            for low, high, name in (("q", order.least, "q"), (order.least, "q", "q"), ("q", "r", "q"), ("r", "q", "r"),
                                    ("q", "q", "q"), ("", "", ""), (order.greatest, "B\n", "B\n")):
                self.assert_error(errors.UnknownName, (name,), mu, order, low, high)

    def test_tables(self):
        self.assertEqual(list(mu_table(order=diamond()).items()), [
            (("w", "w"), 1), (("y", "y"), 1), (("x", "x"), 1), (("z", "z"), 1), (("w", "y"), -1), (("w", "x"), -1),
            (("y", "z"), -1), (("x", "z"), -1), (("w", "z"), 1),
        ])
        self.assertEqual(mu_table(one()), {("x", "x"): 1})
        for order in sample_orders():
            table = mu_table(order)
            self.assertEqual(tuple(table), stretches(order, least_length=0))
            for (low, high), number in table.items():
                self.assertEqual(number, mu(order, low, high))

    def test_a_returned_table_is_new(self):
        order = crooked()
        table = mu_table(order)
        due = dict(table)
        table.clear()
        self.assertEqual(mu_table(order), due)


class Tables(unittest.TestCase):
    """Point [32]: `is_mu_table`."""

    def test_true_tables(self):
        for order in sample_orders() + [widest()]:
            table = mu_table(order)
            self.assertIs(is_mu_table(order, table), True)
            self.assertIs(is_mu_table(order=order, table=dict(list(table.items())[::-1])), True)

    def test_keys_in_other_sequences(self):
        items = list(mu_table(diamond()).items())
        source = random.Random(61)
        for _ in range(20):
            source.shuffle(items)
            self.assertIs(is_mu_table(diamond(), dict(items)), True)

    def test_missing_pairs(self):
        for order in sample_orders():
            self.assertIs(is_mu_table(order, {}), False)
            for pair in mu_table(order):
                table = mu_table(order)
                del table[pair]
                self.assertIs(is_mu_table(order, table), False)

    def test_other_keys(self):
        for order in sample_orders():
            table = mu_table(order)
            pairs = [pair for pair in itertools.product(order.names + ("q", ""), repeat=2) if pair not in table]
            for pair in pairs:
                for number in (0, 1, -1):
                    self.assertIs(is_mu_table(order, {**table, pair: number}), False)
                    self.assertIs(is_mu_table(order, {pair: number, **table}), False)
        for pair in (("q", "x"), ("q", "q"), ("x", "q"), ("", "")):
            self.assertIs(is_mu_table(one(), {("x", "x"): 1, pair: 0}), False)
            # As many keys as there should be.
            self.assertIs(is_mu_table(one(), {pair: 1}), False)

    def test_wrong_numbers(self):
        for order in sample_orders():
            table = mu_table(order)
            for pair, number in table.items():
                for other in (0, 1, -1, 2, -number, number + 1, number - 1, 10 ** 59, -10 ** 59):
                    self.assertIs(is_mu_table(order, {**table, pair: other}), other == number)
            self.assertIs(is_mu_table(order, {pair: 0 for pair in table}), False)
            self.assertIs(is_mu_table(order, {pair: 2 * number for pair, number in table.items()}), False)

    def test_the_table_of_another_order(self):
        self.assertIs(is_mu_table(line(4), mu_table(line(3))), False)
        self.assertIs(is_mu_table(line(3), mu_table(line(4))), False)
        self.assertIs(is_mu_table(two(), mu_table(one())), False)
        names = ["n", "m0", "m1", "o"]
        other = Order(names, [("n", "m0"), ("m0", "m1"), ("m1", "o")])
        self.assertIs(is_mu_table(other, mu_table(wide(4))), False)


class Unlike(Asks, unittest.TestCase):
    """Point [33]."""

    def test_even_orders(self):
        for order in (one(), two(), diamond(), triangle(), full(2, 2), full(2, 2, 2, 2, 2, 2, 2, 2)):
            self.assertIs(is_even(order), True)
            self.assertIsNone(unlike_mu(order))
        self.assertIsNone(unlike_mu(order=one()))

    def test_uneven_orders(self):
        for order, due in ((line(3), ("t0", "t2", 0)), (crooked(), ("bot", "j", 0)), (wide(5), ("n", "o", 2)),
                           (wide(40), ("n", "o", 37)), (line(10), ("t0", "t2", 0)), (full(2, 3), ("m1-0", "o", 2))):
            self.assertEqual(unlike_mu(order), due)

    def test_the_stretch_is_the_first_uneven_one(self):
        for order in random_orders(random.Random(62), 60) + sample_orders() + [widest()]:
            found = unlike_mu(order)
            self.assertEqual(found is None, is_even(order))
            if found is not None:
                low, high, number = found
                self.assertEqual((low, high), uneven_stretch(order)[:2])
                self.assertEqual(number, mu(order, low, high))
                self.assertEqual(number, 1 - signed_total(order, low, high))

    def test_signed_totals(self):
        for order, low, high, total in (
            (diamond(), "w", "z", 0), (diamond(), "w", "y", 0), (diamond(), "y", "z", 0), (line(3), "t0", "t2", 1),
            (line(6), "t1", "t3", 1), (line(6), "t1", "t2", 0), (line(6), "t3", "t5", 1), (wide(40), "n", "o", -36),
            (crooked(), "bot", "top", 0), (crooked(), "c", "top", 1), (crooked(), "bot", "j", 1),
            (full(1, 3), "m1-0", "o", -1), (full(1, 3), "n", "o", 2), (full(3, 1), "m1-1", "o", 1),
        ):
            self.assertEqual(signed_total(order, low, high), total, (low, high))
            self.assertEqual(signed_total(order=order, low=low, high=high), total)

    def test_equal_names(self):
        for order in sample_orders():
            for name in order:
                self.assertEqual(signed_total(order, name, name), 1)

    def test_errors_of_signed_totals(self):
        for low, high, name in (("q", "w", "q"), ("w", "q", "q"), ("q", "r", "q"), ("r", "q", "r"), ("q", "q", "q")):
            self.assert_error(errors.UnknownName, (name,), signed_total, diamond(), low, high)
        self.assert_error(errors.UnknownName, ("q",), signed_total, one(), "q", "q")
        for low, high in (("x", "y"), ("y", "x"), ("z", "w"), ("x", "w"), ("z", "y")):
            self.assert_error(errors.NotBelow, (low, high), signed_total, diamond(), low, high)


class Selections(Asks, unittest.TestCase):
    """Point [34]."""

    def test_no_rank_and_all_ranks(self):
        for order in sample_orders()[1:]:
            least, greatest = order.least, order.greatest
            self.assert_same_order(selected(order, []), (least, greatest), ((least, greatest),))
            self.assertEqual(selected(order, list(range(1, order.height))), order)
            self.assertEqual(selected(order, tuple(range(1, order.height))), order)

    def test_ranks(self):
        self.assert_same_order(
            selected(triangle(), [1]), ("none", "v0", "v1", "v2", "whole"),
            (("none", "v0"), ("none", "v1"), ("none", "v2"), ("v0", "whole"), ("v1", "whole"), ("v2", "whole")),
        )
        self.assert_same_order(selected(order=line(10), ranks=(2, 7)), ("t0", "t2", "t7", "t9"),
                               (("t0", "t2"), ("t2", "t7"), ("t7", "t9")))
        order = full(2, 3, 1)
        found = selected(order, [1, 3])
        self.assertEqual(found.names, ("n", "m1-0", "m1-1", "m3-0", "o"))
        covers = (("n", "m1-0"), ("n", "m1-1"), ("m1-0", "m3-0"), ("m1-1", "m3-0"), ("m3-0", "o"))
        self.assertEqual(found.covers, covers)

    def test_covers_follow_from_the_relation(self):
        names = ["n", "a", "b", "c", "d", "e", "f", "o"]
        covers = [("n", "a"), ("n", "b"), ("a", "c"), ("b", "d"), ("c", "e"), ("d", "f"), ("e", "o"), ("f", "o")]
        found = selected(Order(names, covers), [1, 3])
        self.assert_same_order(found, ("n", "a", "b", "e", "f", "o"), (
            ("n", "a"), ("n", "b"), ("a", "e"), ("b", "f"), ("e", "o"), ("f", "o")))

    def test_heights_and_relations(self):
        for order in sample_orders()[1:]:
            for ranks in rank_sets(order.weight):
                found = selected(order, ranks)
                self.assertEqual(found.height, len(ranks) + 1)
                kept = [name for name in order if order.rank(name) in (0, order.height) + ranks]
                self.assertEqual(list(found), kept)
                for low, high in itertools.product(kept, repeat=2):
                    self.assertIs(found.is_below(low, high), order.is_below(low, high))

    def test_the_given_sequence_is_the_place_sequence(self):
        order = Order(["o", "z", "b", "a", "y", "n"], [("n", "b"), ("n", "a"), ("b", "z"), ("a", "z"), ("b", "y"),
                                                      ("a", "y"), ("z", "o"), ("y", "o")])
        self.assertEqual(order.names, ("n", "b", "a", "z", "y", "o"))
        self.assertEqual(selected(order, [1]).names, ("n", "b", "a", "o"))
        self.assertEqual(selected(order, [2]).names, ("n", "z", "y", "o"))

    def test_mu_of_a_selection_is_the_signed_count(self):
        for order in random_orders(random.Random(63), 20) + sample_orders()[1:]:
            for ranks in rank_sets(order.weight) if order.height > 0 else ():
                found = selected(order, ranks)
                self.assertEqual(beta(order, ranks),
                                 (-1) ** (len(ranks) + 1) * mu(found, found.least, found.greatest))

    def test_forty_things(self):
        found = selected(widest(), [1, 2, 3, 4, 5, 6, 7, 8])
        self.assertEqual(found, widest())
        self.assertEqual(mu(found, "n", "o"), -4 ** 6 * 9)

    def test_wrong_ranks(self):
        for weight, ranks in WRONG_RANKS:
            if weight <= 8:
                order = line(weight + 2)
                self.assert_error(errors.InvalidRanks, (ranks,), selected, order, ranks)
                self.assert_error(errors.InvalidRanks, (ranks,), selected, order, list(ranks))
        self.assert_error(errors.InvalidRanks, ((1,),), selected, two(), [1])

    def test_an_order_of_one_thing(self):
        for ranks in ([], [1], [0], [2, 1], [-1]):
            self.assert_error(errors.TooLow, (0,), selected, one(), ranks)


class Struck(Asks, unittest.TestCase):
    """Point [35]."""

    def assert_both(self, order, struck, number):
        for function in (mu_without, mu_by_struck):
            self.assertEqual(function(order, struck), number, (function.__name__, struck))
            self.assertEqual(function(order=order, struck=tuple(struck)), number)

    def test_nothing_struck(self):
        for order in sample_orders() + [widest()]:
            self.assert_both(order, [], mu(order, order.least, order.greatest))

    def test_everything_struck(self):
        for order in sample_orders()[1:] + [widest()]:
            self.assert_both(order, list(order.names[1:-1]), -1)
            self.assert_both(order, list(order.names[1:-1])[::-1], -1)

    def test_some_struck(self):
        self.assert_both(diamond(), ["x"], 0)
        self.assert_both(wide(6), ["m1", "m3"], 1)
        self.assert_both(triangle(), ["v0"], 0)
        self.assert_both(triangle(), ["v0", "v1", "v2"], 2)
        self.assert_both(line(5), ["t1", "t3"], 0)
        self.assert_both(crooked(), ["x"], 1)
        self.assert_both(crooked(), ["j"], 0)
        self.assert_both(crooked(), ["a", "b"], 2)
        self.assert_both(crooked(), ["c", "j"], 0)

    def test_what_remains_need_not_have_ranks(self):
        # Without a and d, a path of two steps stands beside another; without a, one of three.
        names = ["n", "a", "b", "c", "d", "o"]
        covers = [("n", "a"), ("n", "b"), ("a", "c"), ("b", "d"), ("c", "o"), ("d", "o")]
        order = Order(names, covers)
        self.assert_both(order, [], 1)
        self.assert_both(order, ["a"], 1)
        self.assert_both(order, ["a", "c"], 0)
        self.assert_both(order, ["a", "d"], 1)

    def test_repeats_do_not_matter(self):
        for order, struck in ((triangle(), ["v0", "e1"]), (diamond(), ["x"]), (wide(6), ["m0", "m3"])):
            due = mu_without(order, struck)
            self.assert_both(order, struck * 2, due)
            self.assert_both(order, struck + struck[::-1] + struck[:1], due)
            self.assert_both(order, (struck * 500)[:1000], due)

    def test_both_are_equal_for_all_selections(self):
        for order in (triangle(), crooked(), full(1, 2, 2), full(2, 1, 3)):
            for size in range(order.size - 1):
                for struck in itertools.combinations(order.names[1:-1], size):
                    self.assertEqual(mu_without(order, struck), mu_by_struck(order, struck))

    def test_an_order_of_one_thing(self):
        self.assert_both(one(), [], 1)

    def test_unknown_names(self):
        for order in (one(), two(), diamond()):
            ends = [order.least, order.greatest]
            for struck in (["q"], ["q", "r"], ends + ["q"], ["q"] + ends, [order.least, "q", "r", order.least],
                           ["q"] * 1000, ["q", "q", "r"]):
                for function in (mu_without, mu_by_struck):
                    self.assert_error(errors.UnknownName, ("q",), function, order, struck)
                    self.assert_error(errors.UnknownName, ("q",), function, order, tuple(struck))
        for function in (mu_without, mu_by_struck):
            self.assert_error(errors.UnknownName, ("r",), function, diamond(), ["x", "r", "q", "w"])
            self.assert_error(errors.UnknownName, ("",), function, diamond(), ["x", ""])

    def test_ends(self):
        for function in (mu_without, mu_by_struck):
            for struck, name in ((["w"], "w"), (["z"], "z"), (["z", "w"], "z"), (["w", "z"], "w"),
                                 (["x", "z"], "z"), (["x", "y", "w", "x", "z"], "w"), (["w"] * 1000, "w")):
                self.assert_error(errors.EndStruck, (name,), function, diamond(), struck)
            self.assert_error(errors.EndStruck, ("x",), function, one(), ["x"])
            self.assert_error(errors.EndStruck, ("b",), function, two(), ["b"])


if __name__ == "__main__":
    unittest.main()

"""The module evenodds.absum: point [31]."""

import random
import unittest

from evenodds import errors
from evenodds.absum import ab_sum, betas_of_sum, stretch_sum, sum_of_betas
from evenodds.counts import Counts, alphas, beta, betas_of_alphas
from evenodds.orders import Order
from evenodds.ranksets import rank_sets, word_of
from evenodds.stretches import stretch_order, stretches
from evenodds.words import WordSum, single, zero_sum
from samples import BIG, Asks, crooked, diamond, full, line, one, random_orders, some_sums, triangle, two, wide, widest


class LetterSums(Asks, unittest.TestCase):
    def test_small_orders(self):
        self.assert_sum(ab_sum(two()), "ab", 0, (("", 1),))
        self.assertEqual(ab_sum(two()), single("ab", ""))
        self.assert_sum(ab_sum(order=diamond()), "ab", 1, (("a", 1), ("b", 1)))
        self.assert_sum(ab_sum(line(3)), "ab", 1, (("a", 1),))
        self.assert_sum(ab_sum(wide(40)), "ab", 1, (("a", 1), ("b", 37)))
        self.assert_sum(ab_sum(triangle()), "ab", 2, (("aa", 1), ("ab", 2), ("ba", 2), ("bb", 1)))
        self.assert_sum(ab_sum(crooked()), "ab", 2, (("aa", 1), ("ab", 2), ("ba", 2)))
        self.assert_sum(ab_sum(full(2, 3)), "ab", 2, (("aa", 1), ("ab", 2), ("ba", 1), ("bb", 2)))

    def test_lines(self):
        for count in range(2, 11):
            self.assert_sum(ab_sum(line(count)), "ab", count - 2, (("a" * (count - 2), 1),))

    def test_each_number_is_the_signed_count(self):
        for order in random_orders(random.Random(51), 20):
            if order.height > 0:
                for ranks in rank_sets(order.weight):
                    self.assertEqual(ab_sum(order).coefficient(word_of(ranks, order.weight)), beta(order, ranks))

    def test_forty_things(self):
        order = widest()
        found = ab_sum(order)
        self.assertEqual((order.size, found.weight, len(found.terms)), (40, 8, 256))
        for word, number in found:
            due = 1
            for letter, size in zip(word, (5, 5, 5, 5, 5, 5, 4, 4)):
                due *= size - 1 if letter == "b" else 1
            self.assertEqual(number, due)

    def test_an_order_of_one_thing(self):
        self.assert_error(errors.TooLow, (0,), ab_sum, one())
        self.assert_error(errors.TooLow, (0,), ab_sum, Order(["q"]))


class SumsOfBetas(Asks, unittest.TestCase):
    def test_numbers_go_as_they_are(self):
        counts = Counts(3, {(): 2, (1,): -3, (1, 3): 5, (2, 3): 7, (1, 2, 3): 10 * BIG - 1})
        due = (("aaa", 2), ("abb", 7), ("baa", -3), ("bab", 5), ("bbb", 10 * BIG - 1))
        self.assert_sum(sum_of_betas(counts), "ab", 3, due)
        self.assert_sum(sum_of_betas(counts=counts), "ab", 3, due)
        self.assert_sum(sum_of_betas(Counts(0, {(): -4})), "ab", 0, (("", -4),))
        for weight in range(10):
            self.assert_sum(sum_of_betas(Counts(weight, {})), "ab", weight, ())

    def test_counts_of_a_sum(self):
        word_sum = WordSum("ab", 3, [("aba", 4), ("bba", -6)])
        found = betas_of_sum(word_sum)
        self.assertIs(found.__class__, Counts)
        self.assertEqual(found, Counts(3, {(2,): 4, (1, 2): -6}))
        self.assertEqual(betas_of_sum(word_sum=zero_sum("ab", 9)), Counts(9, {}))
        self.assertEqual(betas_of_sum(WordSum("ab", 0, [("", BIG)])).pairs(), (((), BIG),))

    def test_each_undoes_the_other(self):
        source = random.Random(52)
        for weight in range(10):
            for word_sum in some_sums("ab", weight, source, 4):
                self.assertEqual(sum_of_betas(betas_of_sum(word_sum)), word_sum)
                counts = Counts(weight, {ranks: source.randint(-9, 9) for ranks in rank_sets(weight)})
                self.assertEqual(betas_of_sum(sum_of_betas(counts)), counts)
        for order in (two(), crooked(), line(9)):
            self.assertEqual(betas_of_sum(ab_sum(order)), betas_of_alphas(alphas(order)))

    def test_letters_cd(self):
        for word_sum in (zero_sum("cd", 0), zero_sum("cd", 9), single("cd", "cd"), single("cd", "")):
            self.assert_error(errors.InvalidLetters, ("cd",), betas_of_sum, word_sum)


class StretchSums(Asks, unittest.TestCase):
    def test_sums_of_stretches(self):
        for order in (two(), diamond(), triangle(), crooked(), line(5), full(1, 2, 2)):
            for low, high in stretches(order):
                self.assertEqual(stretch_sum(order, low, high), ab_sum(stretch_order(order, low, high)))
            self.assertEqual(stretch_sum(order=order, low=order.least, high=order.greatest), ab_sum(order))
        self.assert_sum(stretch_sum(crooked(), "bot", "k"), "ab", 1, (("a", 1), ("b", 1)))
        self.assert_sum(stretch_sum(crooked(), "bot", "j"), "ab", 1, (("a", 1),))
        self.assert_sum(stretch_sum(crooked(), "b", "top"), "ab", 1, (("a", 1), ("b", 1)))
        self.assert_sum(stretch_sum(crooked(), "k", "top"), "ab", 0, (("", 1),))

    def test_unknown_names(self):
        for order in (crooked(), one()):
            for low, high, name in (("q", order.least, "q"), (order.least, "q", "q"), ("q", "r", "q"), ("r", "q", "r"),
                                    ("q", "q", "q"), ("", "", ""), ("q" * 20000, "q", "q" * 20000)):
                self.assert_error(errors.UnknownName, (name,), stretch_sum, order, low, high)

    def test_equal_names(self):
        for order in (one(), two(), crooked()):
            for name in order:
                self.assert_error(errors.TooLow, (0,), stretch_sum, order, name, name)

    def test_names_that_are_not_below(self):
        for low, high in (("c", "k"), ("k", "c"), ("top", "bot"), ("k", "b"), ("a", "b"), ("top", "k")):
            self.assert_error(errors.NotBelow, (low, high), stretch_sum, crooked(), low, high)


if __name__ == "__main__":
    unittest.main()

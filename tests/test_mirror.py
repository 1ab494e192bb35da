"""The module evenodds.mirror: points [36] and [37]."""

import random
import unittest

from evenodds import errors
from evenodds.absum import ab_sum, stretch_sum
from evenodds.counts import beta
from evenodds.evencheck import is_even, uneven_stretch
from evenodds.mirror import is_mirrored, mirrored, unmirrored_ranks, unmirrored_stretch, unmirrored_word
from evenodds.moebius import mu
from evenodds.ranksets import complement, rank_sets
from evenodds.words import WordSum, single, zero_sum
from samples import (
    BIG,
    Asks,
    beside,
    crooked,
    diamond,
    full,
    line,
    one,
    random_orders,
    some_sums,
    triangle,
    two,
    wide,
    widest,
)

CD_SUMS = (zero_sum("cd", 0), zero_sum("cd", 9), single("cd", ""), single("cd", "cd"), single("cd", "ccc"))


class Mirrors(Asks, unittest.TestCase):
    """Point [36]."""

    def test_mirrors(self):
        word_sum = WordSum("ab", 3, [("aab", 1), ("bab", -2), ("bbb", 3)])
        self.assert_sum(mirrored(word_sum), "ab", 3, (("aaa", 3), ("aba", -2), ("bba", 1)))
        self.assert_sum(mirrored(word_sum=zero_sum("ab", 4)), "ab", 4, ())
        self.assert_sum(mirrored(WordSum("ab", 0, [("", -7)])), "ab", 0, (("", -7),))
        self.assert_sum(mirrored(WordSum("ab", 1, [("a", BIG)])), "ab", 1, (("b", BIG),))
        # A mirror is no reversal.
        self.assert_sum(mirrored(single("ab", "aab")), "ab", 3, (("bba", 1),))

    def test_a_mirror_of_a_mirror(self):
        for weight in range(10):
            for word_sum in some_sums("ab", weight, random.Random(71), 3):
                self.assertEqual(mirrored(mirrored(word_sum)), word_sum)
                self.assertIs(is_mirrored(word_sum + mirrored(word_sum)), True)

    def test_mirrored_sums(self):
        for word_sum in [zero_sum("ab", weight) for weight in range(10)] + [
            single("ab", ""), WordSum("ab", 0, [("", -3)]), WordSum("ab", 1, [("a", 2), ("b", 2)]),
            WordSum("ab", 2, [("ab", -1), ("ba", -1)]), WordSum("ab", 2, [("aa", 5), ("bb", 5)]), ab_sum(triangle()),
        ]:
            self.assertIs(is_mirrored(word_sum), True)
            self.assertIs(is_mirrored(word_sum=word_sum), True)
            self.assertIsNone(unmirrored_word(word_sum))

    def test_the_first_unlike_word(self):
        for weight, terms, due in (
            (1, [("a", 1)], ("a", 1, "b", 0)), (1, [("b", 1)], ("a", 0, "b", 1)),
            (1, [("a", -2), ("b", 2)], ("a", -2, "b", 2)), (2, [("bb", 3)], ("aa", 0, "bb", 3)),
            (2, [("ba", 3), ("aa", 1), ("bb", 1)], ("ab", 0, "ba", 3)),
            (2, [("ab", 3), ("ba", 2), ("bb", 1)], ("aa", 0, "bb", 1)),
            (3, [("baa", 1), ("bab", 1)], ("aba", 0, "bab", 1)), (3, [("bba", 9)], ("aab", 0, "bba", 9)),
            (3, [("aab", -4), ("bba", 4), ("aaa", 1), ("bbb", 1)], ("aab", -4, "bba", 4)),
            (2, [("aa", BIG), ("bb", BIG - 1)], ("aa", BIG, "bb", BIG - 1)),
        ):
            word_sum = WordSum("ab", weight, terms)
            self.assertEqual(unmirrored_word(word_sum), due)
            self.assertEqual(unmirrored_word(word_sum=word_sum), due)
            self.assertIs(is_mirrored(word_sum), False)

    def test_the_word_begins_with_a(self):
        for word_sum in some_sums("ab", 9, random.Random(72), 10)[1:]:
            word, number, other, other_number = unmirrored_word(word_sum)
            self.assertEqual(word[0] + other[0], "ab")
            self.assertEqual((word_sum.coefficient(word), word_sum.coefficient(other)), (number, other_number))

    def test_letters_cd(self):
        for word_sum in CD_SUMS:
            for function in (mirrored, is_mirrored, unmirrored_word):
                self.assert_error(errors.InvalidLetters, ("cd",), function, word_sum)


class Ranks(Asks, unittest.TestCase):
    """Point [37]: `unmirrored_ranks`."""

    def test_even_orders(self):
        for order in (two(), diamond(), triangle(), full(2, 2, 2), full(2, 2, 2, 2, 2, 2, 2, 2)):
            self.assertIsNone(unmirrored_ranks(order))

    def test_uneven_orders(self):
        for order, due in (
            (line(3), ((), 1, (1,), 0)), (line(10), ((), 1, (1, 2, 3, 4, 5, 6, 7, 8), 0)),
            (wide(40), ((), 1, (1,), 37)), (crooked(), ((), 1, (1, 2), 0)), (full(2, 3), ((), 1, (1, 2), 2)),
        ):
            self.assertEqual(unmirrored_ranks(order), due)
            self.assertEqual(unmirrored_ranks(order=order), due)

    def test_an_uneven_order_without_a_fault(self):
        found = [order for order in random_orders(random.Random(73), 300)
                 if order.height > 0 and unmirrored_ranks(order) is None and not is_even(order)]
        self.assertTrue(found)
        for order in found:
            self.assertIsNotNone(unmirrored_stretch(order))

    def test_the_first_rank_set(self):
        for order in random_orders(random.Random(74), 60):
            if order.height == 0:
                continue
            unlike = [ranks for ranks in rank_sets(order.weight)
                      if beta(order, ranks) != beta(order, complement(ranks, order.weight))]
            found = unmirrored_ranks(order)
            self.assertEqual(found is None, not unlike)
            if unlike:
                other = complement(unlike[0], order.weight)
                self.assertEqual(found, (unlike[0], beta(order, unlike[0]), other, beta(order, other)))

    def test_an_order_of_one_thing(self):
        self.assert_error(errors.TooLow, (0,), unmirrored_ranks, one())


class Stretches(Asks, unittest.TestCase):
    """Point [37]: `unmirrored_stretch`."""

    def test_even_orders(self):
        for order in (one(), two(), diamond(), triangle(), full(2, 2, 2), full(2, 2, 2, 2, 2, 2, 2)):
            self.assertIsNone(unmirrored_stretch(order))
        self.assertIsNone(unmirrored_stretch(order=one()))

    def test_uneven_orders(self):
        for order, due in (
            (line(3), ("t0", "t2", "a", 1, "b", 0)), (wide(16), ("n", "o", "a", 1, "b", 13)),
            (crooked(), ("bot", "j", "a", 1, "b", 0)), (full(2, 3), ("m1-0", "o", "a", 1, "b", 2)),
            (line(10), ("t0", "t2", "a", 1, "b", 0)),
        ):
            self.assertEqual(unmirrored_stretch(order), due)

    def test_a_longer_stretch(self):
        # All stretches of length 2 are even, that of length 4 is not.
        order = beside()
        self.assertEqual(uneven_stretch(order)[:2], ("n", "o"))
        self.assertEqual(mu(order, "n", "o"), 3)
        self.assertEqual(unmirrored_stretch(order), ("n", "o", "aaa", 1, "bbb", 3))

    def test_what_the_document_says_of_the_stretch(self):
        for order in random_orders(random.Random(75), 80):
            found = unmirrored_stretch(order)
            self.assertEqual(found is None, is_even(order))
            if found is not None:
                low, high, word, number, other, other_number = found
                self.assertEqual((low, high), uneven_stretch(order)[:2])
                self.assertEqual((set(word), number), ({"a"}, 1))
                self.assertEqual((set(other), other_number), ({"b"}, mu(order, low, high)))
                self.assertEqual(found[2:], unmirrored_word(stretch_sum(order, low, high)))

    def test_sixteen_and_seventeen_things(self):
        self.assertEqual(unmirrored_stretch(wide(16))[:2], ("n", "o"))
        self.assertIsNone(unmirrored_stretch(full(2, 2, 2, 2, 2, 2, 2)))
        for order in (wide(17), wide(40), full(2, 2, 2, 2, 2, 2, 3), widest()):
            self.assert_error(errors.TooMany, ("things", 16), unmirrored_stretch, order)


if __name__ == "__main__":
    unittest.main()

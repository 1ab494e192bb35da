"""The module evenodds.letterrules: points [55] to [57]."""

import itertools
import random
import unittest

from evenodds import errors
from evenodds.absum import ab_sum
from evenodds.cdread import cd_sum
from evenodds.cdwords import spread
from evenodds.letterrules import lifted, prism_sum, pyramid_sum, splits, splits_by_tops
from evenodds.products import prism, pyramid
from evenodds.words import WordSum, single, zero_sum
from samples import (
    BIG,
    Asks,
    all_words,
    crooked,
    diamond,
    full,
    line,
    one,
    random_orders,
    skew,
    some_sums,
    triangle,
    two,
    wide,
)


class Splits(Asks, unittest.TestCase):
    """Point [55]."""

    def test_single_words(self):
        self.assertEqual(splits(single("ab", "a")), (("", "", 1),))
        self.assertEqual(splits(word_sum=single("ab", "ab")), (("", "b", 1), ("a", "", 1)))
        self.assertEqual(splits(single("ab", "baa")), (("", "aa", 1), ("b", "a", 1), ("ba", "", 1)))
        self.assertEqual(splits(WordSum("ab", 2, [("bb", -BIG)])), (("", "b", -BIG), ("b", "", -BIG)))

    def test_equal_pairs_are_added(self):
        word_sum = WordSum("ab", 3, [("aab", 2), ("abb", 3), ("bab", 5)])
        self.assertEqual(splits(word_sum), (("", "ab", 7), ("", "bb", 3), ("a", "b", 5), ("aa", "", 2), ("ab", "", 3),
                                            ("b", "b", 5), ("ba", "", 5)))
        self.assertEqual(splits(WordSum("ab", 1, [("a", 4), ("b", 3)])), (("", "", 7),))

    def test_zeros_are_left_out(self):
        self.assertEqual(splits(WordSum("ab", 1, [("a", 4), ("b", -4)])), ())
        self.assertEqual(splits(WordSum("ab", 2, [("ab", 1), ("bb", -1)])), (("a", "", 1), ("b", "", -1)))
        self.assertEqual(splits(WordSum("ab", 2, [("aa", 1), ("ab", -1), ("ba", -1), ("bb", 1)])), ())

    def test_by_left_and_then_by_right(self):
        found = splits(WordSum("ab", 4, [(word, at + 1) for at, word in enumerate(all_words("ab", 4))]))
        self.assertEqual([row[:2] for row in found], sorted(row[:2] for row in found))
        self.assertEqual(len(found), 4 * 8)

    def test_weight_zero_and_zero_sums(self):
        for number in (1, -5, BIG):
            self.assertEqual(splits(WordSum("ab", 0, [("", number)])), ())
        for weight in range(10):
            self.assertEqual(splits(zero_sum("ab", weight)), ())

    def test_letters_cd(self):
        for word_sum in (zero_sum("cd", 0), zero_sum("cd", 9), single("cd", ""), single("cd", "cdc")):
            self.assert_error(errors.InvalidLetters, ("cd",), splits, word_sum)

    def test_by_tops(self):
        self.assertEqual(splits_by_tops(two()), ())
        self.assertEqual(splits_by_tops(order=diamond()), (("", "", 2),))
        self.assertEqual(splits_by_tops(triangle()), (("", "a", 3), ("", "b", 3), ("a", "", 3), ("b", "", 3)))
        self.assertEqual(splits_by_tops(line(4)), (("", "a", 1), ("a", "", 1)))
        for order in random_orders(random.Random(141), 60) + [crooked(), skew(), wide(40), line(10), full(2, 2, 2, 2)]:
            if order.height > 0:
                self.assertEqual(splits_by_tops(order), splits(ab_sum(order)))

    def test_an_order_of_one_thing(self):
        self.assert_error(errors.TooLow, (0,), splits_by_tops, one())


class Lifted(Asks, unittest.TestCase):
    """Point [56]."""

    def test_letters_ab(self):
        first, second = WordSum("ab", 2, [("aa", 2), ("ab", 3)]), WordSum("ab", 2, [("ba", 5)])
        self.assert_sum(lifted(single("ab", "a"), first, second), "ab", 2, (("aa", 2), ("ab", 3)))
        self.assert_sum(lifted(single("ab", "b"), first, second), "ab", 2, (("ba", 5),))
        self.assert_sum(lifted(single("ab", "ab"), first, second), "ab", 3, (("aab", 2), ("aba", 5), ("abb", 3)))
        self.assert_sum(lifted(word_sum=single("ab", "ba"), first=first, second=second), "ab", 3,
                        (("baa", 2 + 5), ("bab", 3)))
        self.assert_sum(lifted(WordSum("ab", 1, [("a", -1), ("b", BIG)]), first, second), "ab", 2,
                        (("aa", -2), ("ab", -3), ("ba", 5 * BIG)))

    def test_letters_cd(self):
        first, second = WordSum("cd", 2, [("cc", 2), ("d", 3)]), WordSum("cd", 3, [("cd", 5), ("dc", 7)])
        self.assert_sum(lifted(single("cd", "c"), first, second), "cd", 2, (("cc", 2), ("d", 3)))
        self.assert_sum(lifted(single("cd", "d"), first, second), "cd", 3, (("cd", 5), ("dc", 7)))
        self.assert_sum(lifted(single("cd", "cd"), first, second), "cd", 4,
                        (("ccd", 2 + 5), ("cdc", 7), ("dd", 3)))

    def test_zero_sums_and_weight_zero(self):
        for letters, images in (("ab", (single("ab", "ab"), single("ab", "ba"))),
                                ("cd", (single("cd", "d"), single("cd", "cd")))):
            for weight in range(9):
                self.assert_sum(lifted(zero_sum(letters, weight), *images), letters, weight + 1, ())
            self.assert_sum(lifted(single(letters, ""), *images), letters, 1, ())
            zeros = [zero_sum(letters, image.weight) for image in images]
            self.assert_sum(lifted(single(letters, letters), *zeros), letters, len(letters) + (letters == "cd") + 1, ())

    def test_equal_words_are_added_and_zeros_left_out(self):
        image = single("ab", "ab")
        self.assert_sum(lifted(WordSum("ab", 1, [("a", 1), ("b", -1)]), image, image), "ab", 2, ())
        self.assert_sum(lifted(single("ab", "aaa"), single("ab", "aa"), image), "ab", 4, (("aaaa", 3),))

    def test_weight_nine(self):
        sums = [zero_sum(letters, weight) for letters in ("ab", "cd") for weight in (0, 2, 3, 9)]
        for word_sum in (zero_sum("ab", 9), zero_sum("cd", 9), single("ab", "a" * 9), single("cd", "c" * 9)):
            for first, second in itertools.product(sums, repeat=2):
                # Also where letters or weights of the images are wrong.
                self.assert_error(errors.InvalidWeight, (10,), lifted, word_sum, first, second)
        for letters, first, second in (("ab", 2, 2), ("cd", 2, 3)):
            images = (zero_sum(letters, first), zero_sum(letters, second))
            self.assert_sum(lifted(single(letters, letters[0] * 8), *images), letters, 9, ())

    def test_unlike_letters(self):
        for letters in itertools.product(("ab", "cd"), repeat=3):
            if len(set(letters)) > 1:
                for weights in ((0, 2, 2), (3, 2, 3), (8, 2, 3), (1, 0, 9), (2, 3, 2)):
                    sums = [zero_sum(pair, weight) for pair, weight in zip(letters, weights)]
                    self.assert_error(errors.UnlikeSums, ("letters",), lifted, *sums)

    def test_unlike_weights(self):
        for letters, due in (("ab", (2, 2)), ("cd", (2, 3))):
            # Also where the letter does not occur in the sum.
            for word_sum in (zero_sum(letters, 0), zero_sum(letters, 4), single(letters, ""), zero_sum(letters, 8),
                             single(letters, letters[0]), single(letters, letters[1])):
                for weights in itertools.product(range(10), repeat=2):
                    images = [zero_sum(letters, weight) for weight in weights]
                    if weights == due:
                        self.assert_sum(lifted(word_sum, *images), letters, word_sum.weight + 1, ())
                    else:
                        self.assert_error(errors.UnlikeSums, ("weight",), lifted, word_sum, *images)


class Sums(Asks, unittest.TestCase):
    """Point [57]."""

    def test_small_sums(self):
        for letters, word, terms, prism_terms in (
            ("ab", "", (("a", 1), ("b", 1)), (("a", 1), ("b", 1))),
            ("cd", "", (("c", 1),), (("c", 1),)),
            ("ab", "a", (("aa", 1), ("ab", 1), ("ba", 1)), (("aa", 1), ("ab", 2), ("ba", 1))),
            ("ab", "b", (("ab", 1), ("ba", 1), ("bb", 1)), (("ab", 1), ("ba", 2), ("bb", 1))),
            ("cd", "c", (("cc", 1), ("d", 1)), (("cc", 1), ("d", 2))),
            ("cd", "d", (("cd", 1), ("dc", 1)), (("cd", 1), ("dc", 2))),
        ):
            weight = single(letters, word).weight + 1
            self.assert_sum(pyramid_sum(single(letters, word)), letters, weight, terms)
            self.assert_sum(pyramid_sum(word_sum=single(letters, word)), letters, weight, terms)
            self.assert_sum(prism_sum(single(letters, word)), letters, weight, prism_terms)
            self.assert_sum(prism_sum(word_sum=single(letters, word)), letters, weight, prism_terms)
        self.assert_sum(pyramid_sum(single("cd", "cd")), "cd", 4, (("ccd", 1), ("cdc", 1), ("dd", 1)))

    def test_zero_sums(self):
        for letters in ("ab", "cd"):
            for weight in range(9):
                self.assert_sum(pyramid_sum(zero_sum(letters, weight)), letters, weight + 1, ())
                self.assert_sum(prism_sum(zero_sum(letters, weight)), letters, weight + 1, ())

    def test_weights_of_eight_and_nine(self):
        for letters in ("ab", "cd"):
            word_sum = WordSum(letters, 8, [(word, 1) for word in all_words(letters, 8)])
            self.assertEqual(pyramid_sum(word_sum).weight, 9)
            self.assertEqual(prism_sum(word_sum).weight, 9)
            for word_sum in (zero_sum(letters, 9), single(letters, letters[0] * 9)):
                self.assert_error(errors.InvalidWeight, (10,), pyramid_sum, word_sum)
                self.assert_error(errors.InvalidWeight, (10,), prism_sum, word_sum)

    def test_orders(self):
        for order in random_orders(random.Random(142), 30) + [two(), diamond(), triangle(), crooked(), skew(), line(9),
                                                               wide(14), wide(20), full(2, 2, 2), full(3, 3, 3)]:
            if order.height == 0:
                continue
            if order.size <= 20 and order.height < 9:
                self.assertEqual(ab_sum(pyramid(order)), pyramid_sum(ab_sum(order)))
            if order.size <= 14 and order.height < 9:
                self.assertEqual(ab_sum(prism(order)), prism_sum(ab_sum(order)))

    def test_even_orders(self):
        for order in (two(), diamond(), triangle(), full(2, 2, 2)):
            self.assertEqual(cd_sum(pyramid(order)), pyramid_sum(cd_sum(order)))
            self.assertEqual(cd_sum(prism(order)), prism_sum(cd_sum(order)))

    def test_spreads(self):
        source = random.Random(143)
        for weight in range(9):
            for word_sum in some_sums("cd", weight, source, 5):
                self.assertEqual(spread(pyramid_sum(word_sum)), pyramid_sum(spread(word_sum)))
                self.assertEqual(spread(prism_sum(word_sum)), prism_sum(spread(word_sum)))


if __name__ == "__main__":
    unittest.main()

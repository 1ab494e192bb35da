"""The module evenodds.cdwords: points [38] and [39]."""

import itertools
import unittest

from evenodds import errors
from evenodds.absum import ab_sum
from evenodds.cdwords import cd_count, cd_words, first_word, spread, word_of_first
from evenodds.words import WordSum, single, zero_sum
from samples import BIG, WRONG_WEIGHTS, Asks, all_words, triangle

# All characters but the four letters and the percent sign.
OTHERS = "\n" + "".join(chr(code) for code in range(32, 127) if chr(code) not in "abcd%")
COUNTS = (1, 1, 2, 3, 5, 8, 13, 21, 34, 55)


class Lists(Asks, unittest.TestCase):
    """Point [38]: `cd_words` and `cd_count`."""

    def test_words(self):
        for weight, words in (
            (0, ("",)), (1, ("c",)), (2, ("cc", "d")), (3, ("ccc", "cd", "dc")),
            (4, ("cccc", "ccd", "cdc", "dcc", "dd")),
            (5, ("ccccc", "cccd", "ccdc", "cdcc", "cdd", "dccc", "dcd", "ddc")),
        ):
            self.assertEqual(cd_words(weight), words)
            self.assertEqual(cd_words(weight=weight), words)

    def test_all_weights(self):
        for weight, count in enumerate(COUNTS):
            words = cd_words(weight)
            self.assertEqual(words, tuple(all_words("cd", weight)))
            self.assertEqual(words, tuple(sorted(set(words))))
            self.assertEqual(cd_count(weight), count)
            self.assertEqual(cd_count(weight=weight), len(words))

    def test_wrong_weights(self):
        for weight in WRONG_WEIGHTS:
            self.assert_error(errors.InvalidWeight, (weight,), cd_words, weight)
            self.assert_error(errors.InvalidWeight, (weight,), cd_count, weight)


class Spreads(Asks, unittest.TestCase):
    """Point [38]: `spread`."""

    def test_single_words(self):
        for word, words in (
            ("", [""]), ("c", ["a", "b"]), ("d", ["ab", "ba"]), ("cc", ["aa", "ab", "ba", "bb"]),
            ("cd", ["aab", "aba", "bab", "bba"]), ("dc", ["aba", "abb", "baa", "bab"]),
            ("dd", ["abab", "abba", "baab", "baba"]),
        ):
            due = tuple((other, 1) for other in words)
            self.assert_sum(spread(single("cd", word)), "ab", len(words[0]), due)
            self.assert_sum(spread(word_sum=single("cd", word)), "ab", len(words[0]), due)
        self.assertEqual(len(spread(single("cd", "c" * 9)).terms), 512)
        self.assertEqual(len(spread(single("cd", "ddddc")).terms), 32)

    def test_sums(self):
        self.assert_sum(spread(WordSum("cd", 2, [("cc", 1), ("d", -1)])), "ab", 2, (("aa", 1), ("bb", 1)))
        self.assert_sum(spread(WordSum("cd", 2, [("cc", 1), ("d", 1)])), "ab", 2, ab_sum(triangle()).terms)
        self.assert_sum(spread(WordSum("cd", 3, [("cd", 2), ("dc", -3), ("ccc", 5)])), "ab", 3, (
            ("aaa", 5), ("aab", 7), ("aba", 4), ("abb", 2), ("baa", 2), ("bab", 4), ("bba", 7), ("bbb", 5)))
        self.assert_sum(spread(WordSum("cd", 0, [("", -6)])), "ab", 0, (("", -6),))
        self.assert_sum(spread(WordSum("cd", 1, [("c", BIG)])), "ab", 1, (("a", BIG), ("b", BIG)))
        for weight in range(10):
            self.assert_sum(spread(zero_sum("cd", weight)), "ab", weight, ())

    def test_products(self):
        for first, second in itertools.product(cd_words(4), cd_words(5)):
            self.assertEqual(spread(single("cd", first) * single("cd", second)),
                             spread(single("cd", first)) * spread(single("cd", second)))

    def test_letters_ab(self):
        for word_sum in (zero_sum("ab", 0), zero_sum("ab", 9), single("ab", ""), single("ab", "ab")):
            self.assert_error(errors.InvalidLetters, ("ab",), spread, word_sum)


class FirstWords(Asks, unittest.TestCase):
    """Point [39]."""

    def test_first_words(self):
        for word, first in (("", ""), ("c", "a"), ("d", "ab"), ("cd", "aab"), ("dc", "aba"), ("ddc", "ababa"),
                            ("ccc", "aaa"), ("dccd", "abaaab")):
            self.assertEqual(first_word(word), first)
            self.assertEqual(first_word(word=word), first)
            self.assertEqual(word_of_first(first), word)
            self.assertEqual(word_of_first(word=first), word)

    def test_the_least_word_of_the_spread(self):
        for weight in range(10):
            firsts = [first_word(word) for word in cd_words(weight)]
            self.assertEqual(len(set(firsts)), len(firsts))
            for word, first in zip(cd_words(weight), firsts):
                self.assertEqual(first, spread(single("cd", word)).terms[0][0])
                self.assertEqual(word_of_first(first), word)

    def test_exactly_the_words_whose_b_stands_behind_an_a(self):
        for weight in range(10):
            firsts = [first_word(word) for word in cd_words(weight)]
            for word in all_words("ab", weight):
                due = not word.startswith("b") and "bb" not in word
                self.assertIs(word in firsts, due)
                self.assertIs(word_of_first(word) is not None, due)

    def test_no_first_words(self):
        for word in ("b", "ba", "bb", "abb", "aabb", "bab", "baab", "ababb", "abba", "c", "d", "cd", "ac", "ca", "abc",
                     "cab", "dab", "acb", "cb", "db", "A", "AB", "ab ", " ab", "a b", "ab\n", "\n", "a\nb", "q", "0",
                     "abd", "ab-", "aB"):
            self.assertIsNone(word_of_first(word), word)

    def test_other_characters(self):
        for word in ("a", "b", "ab", "cda", "acd", "C", "cd ", " cd", "c d", "cd\n", "\n", "e", "0", "dac",
                     "c" * 19999 + "a"):
            self.assert_error(errors.InvalidWord, (word,), first_word, word)

    def test_every_other_character(self):
        for character in OTHERS:
            for word in (character, "c" + character, character + "d", "d" + character + "c"):
                self.assert_error(errors.InvalidWord, (word,), first_word, word)
            for word in (character, "a" + character, character + "a", "a" + character + "b", "ab" + character):
                self.assertIsNone(word_of_first(word), word)

    def test_long_texts(self):
        self.assertEqual(first_word("c" * 20000), "a" * 20000)
        self.assertEqual(first_word("d" * 20000), "ab" * 20000)
        self.assertEqual(first_word("dc" * 5000), "aba" * 5000)
        self.assertEqual(word_of_first("a" * 20000), "c" * 20000)
        self.assertEqual(word_of_first("ab" * 10000), "d" * 10000)
        self.assertEqual(word_of_first("aab" * 6000), "cd" * 6000)
        for word in ("b" * 20000, "ba" * 10000, "ab" * 9999 + "bb", "a" * 19999 + "c", "c" + "a" * 19999):
            self.assertIsNone(word_of_first(word))


if __name__ == "__main__":
    unittest.main()

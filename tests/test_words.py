"""The module evenodds.words: points [27] to [30]."""

import itertools
import unittest

from evenodds import errors
from evenodds.counts import Counts
from evenodds.words import WordSum, format_sum, parse_sum, power, single, word_weight, zero_sum
from samples import BIG, WRONG_WEIGHTS, Asks, all_words, one

PAIRS = ("ab", "cd")
WRONG_LETTERS = ("", "a", "b", "c", "ba", "dc", "abc", "abcd", "ac", "ad", "AB", "ab ", " ab", "ab\n", "cd\n", "a b",
                 "aa", "cc", "ef", "ab" * 10000)
# 60 digits, all of them nines.
NINES = 10 * BIG - 1


def mixed():
    return WordSum("ab", 2, [("ba", 3), ("aa", -2), ("bb", 1)])


def cd_mixed():
    return WordSum("cd", 3, [("dc", 2), ("ccc", 1), ("cd", -1)])


class Sums(Asks, unittest.TestCase):
    """Point [27]."""

    def test_terms_are_sorted_by_word(self):
        terms = (("aa", 5), ("ab", -1), ("ba", 2), ("bb", 7))
        for given in itertools.permutations(terms):
            self.assert_sum(WordSum("ab", 2, given), "ab", 2, terms)
            self.assert_sum(WordSum("ab", 2, list(given)), "ab", 2, terms)
            self.assert_sum(WordSum("ab", 2, [list(term) for term in given]), "ab", 2, terms)
        terms = (("ccc", 1), ("cd", -1), ("dc", 2))
        for given in itertools.permutations(terms):
            self.assert_sum(WordSum(letters="cd", weight=3, terms=tuple(map(list, given))), "cd", 3, terms)

    def test_by_words_and_not_by_numbers(self):
        self.assert_sum(WordSum("ab", 1, [("b", -9), ("a", 9)]), "ab", 1, (("a", 9), ("b", -9)))
        self.assert_sum(WordSum("cd", 2, [("d", 1), ("cc", 2)]), "cd", 2, (("cc", 2), ("d", 1)))

    def test_equal_words_are_added_over_the_whole_list(self):
        terms = [("ab", 2), ("ba", 1), ("ab", 3), ("aa", 1), ("ba", -4), ("ab", -1)]
        self.assert_sum(WordSum("ab", 2, terms), "ab", 2, (("aa", 1), ("ab", 4), ("ba", -3)))
        self.assert_sum(WordSum("ab", 1, [("a", 1)] * 1000), "ab", 1, (("a", 1000),))
        self.assert_sum(WordSum("cd", 2, [("d", 1), ["d", 1], ("cc", 1), ("d", -1)]), "cd", 2, (("cc", 1), ("d", 1)))

    def test_totals_of_zero_are_left_out(self):
        for terms in ([], (), [("ab", 0)], [("ab", 2), ("ba", 0), ("ab", -2)], [("aa", 0)] * 5,
                      [("aa", 1), ("bb", 1), ("aa", -1), ("bb", -1)]):
            self.assert_sum(WordSum("ab", 2, terms), "ab", 2, ())
        self.assert_sum(WordSum("ab", 2, [("ab", 2), ("ba", 1), ("ab", -2)]), "ab", 2, (("ba", 1),))
        # The word comes to 0 on the way, but not in the end.
        self.assert_sum(WordSum("ab", 2, [("ab", 2), ("ab", -2), ("ab", 1)]), "ab", 2, (("ab", 1),))

    def test_weight_zero(self):
        for letters in PAIRS:
            self.assert_sum(WordSum(letters, 0, [("", 7)]), letters, 0, (("", 7),))
            self.assert_sum(WordSum(letters, 0, [("", 7), ("", -8)]), letters, 0, (("", -1),))
            self.assert_sum(WordSum(letters, 0, []), letters, 0, ())
            for word in ("a", "c", "d", "aa", " "):
                self.assert_error(errors.InvalidWord, (word,), WordSum, letters, 0, [(word, 1)])

    def test_all_weights(self):
        for letters in PAIRS:
            for weight in range(10):
                terms = tuple((word, at + 1) for at, word in enumerate(all_words(letters, weight)))
                self.assert_sum(WordSum(letters, weight, terms[::-1]), letters, weight, terms)
        self.assertEqual(len(WordSum("ab", 9, [(word, 1) for word in all_words("ab", 9)]).terms), 512)

    def test_numbers_of_sixty_digits(self):
        for number in (BIG, NINES, -NINES):
            self.assert_sum(WordSum("ab", 1, [("b", number)]), "ab", 1, (("b", number),))
            self.assert_sum(WordSum("ab", 1, [("b", number), ("b", number)]), "ab", 1, (("b", 2 * number),))
            self.assert_sum(WordSum("ab", 1, [("b", number), ("b", -number)]), "ab", 1, ())

    def test_wrong_letters(self):
        for letters in WRONG_LETTERS:
            self.assert_error(errors.InvalidLetters, (letters,), WordSum, letters, 2, [])
            self.assert_error(errors.InvalidLetters, (letters,), WordSum, letters, 2, [("ab", 1)])
            # Nothing else is judged first.
            self.assert_error(errors.InvalidLetters, (letters,), WordSum, letters, 10, [("q", 1)])
            self.assert_error(errors.InvalidLetters, (letters,), WordSum, letters, -1, [("q", 1)])

    def test_wrong_weights(self):
        for letters in PAIRS:
            for weight in WRONG_WEIGHTS:
                for terms in ([], [("", 1)], [("q", 1)], [("a" * 10, 1)], [("c" * 10, 1)]):
                    self.assert_error(errors.InvalidWeight, (weight,), WordSum, letters, weight, terms)

    def test_wrong_words(self):
        for word in ("", "a", "aaa", "ac", "cd", "c", "d", "AB", "a ", " a", "a\n", "ab\n", "a\nb", "aab", "a" * 20000):
            for number in (1, 0, -5, NINES):
                self.assert_error(errors.InvalidWord, (word,), WordSum, "ab", 2, [(word, number)])
                self.assert_error(errors.InvalidWord, (word,), WordSum, "ab", 2, [("ab", 1), [word, number], ("q", 1)])
        for word in ("", "c", "dc", "cd", "ccc", "dd", "ab", "a", "aa", "d\n", "D", "cc ", "d" * 20000):
            for number in (1, 0):
                self.assert_error(errors.InvalidWord, (word,), WordSum, "cd", 2, [("cc", 1), (word, number), ("d", 1)])

    def test_the_first_wrong_word_is_told(self):
        for first, second in (("q", "aaa"), ("aaa", "q"), ("a", "b"), ("b", "a"), ("", "c")):
            terms = [("ab", 1), (first, 0), ("ba", 1), (second, 1)]
            self.assert_error(errors.InvalidWord, (first,), WordSum, "ab", 2, terms)
        # Neither does it matter that the word comes to 0 in the whole list.
        self.assert_error(errors.InvalidWord, ("q",), WordSum, "ab", 2, [("q", 1), ("q", -1)])


class Equality(unittest.TestCase):
    """Point [28]: `==`."""

    def test_equal_sums(self):
        self.assertTrue(mixed() == mixed())
        self.assertTrue(mixed() == WordSum("ab", 2, [("aa", -1), ("bb", 1), ("ab", 0), ("aa", -1), ("ba", 3)]))
        self.assertIs(mixed() == mixed(), True)
        self.assertIs(mixed() != mixed(), False)
        self.assertIs(zero_sum("cd", 4) == WordSum("cd", 4, [("dd", 0)]), True)

    def test_unlike_sums(self):
        for other in (
            WordSum("ab", 2, [("ba", 3), ("aa", -2)]), WordSum("ab", 2, [("ba", 3), ("aa", -2), ("bb", 2)]),
            WordSum("ab", 2, [("ba", 3), ("aa", -2), ("ab", 1)]), -mixed(), zero_sum("ab", 2), zero_sum("cd", 2),
        ):
            self.assertIs(mixed() == other, False)
            self.assertIs(other == mixed(), False)
            self.assertIs(mixed() != other, True)
        # Letters and weight tell apart even sums with equal terms.
        self.assertIs(zero_sum("ab", 2) == zero_sum("cd", 2), False)
        self.assertIs(zero_sum("ab", 2) == zero_sum("ab", 3), False)
        self.assertIs(single("ab", "") == single("cd", ""), False)
        self.assertIs(zero_sum("ab", 0) == zero_sum("ab", 1), False)

    def test_other_things(self):
        for word_sum in (mixed(), zero_sum("ab", 2), single("cd", "")):
            for other in (None, 0, 1, "", "ab", (), [], {}, False, True, word_sum.terms, list(word_sum.terms), one(),
                          format_sum(word_sum), Counts(2, {}), Counts(0, {(): 1}), WordSum):
                self.assertIs(word_sum == other, False)
                self.assertIs(other == word_sum, False)
                self.assertIs(word_sum != other, True)


class Adding(Asks, unittest.TestCase):
    """Point [28]: `+`, `-` and the negative."""

    def test_numbers(self):
        other = WordSum("ab", 2, [("ba", 1), ("ab", 4), ("aa", 2)])
        self.assert_sum(mixed() + other, "ab", 2, (("ab", 4), ("ba", 4), ("bb", 1)))
        self.assert_sum(mixed() - other, "ab", 2, (("aa", -4), ("ab", -4), ("ba", 2), ("bb", 1)))
        self.assert_sum(other - mixed(), "ab", 2, (("aa", 4), ("ab", 4), ("ba", -2), ("bb", -1)))
        self.assert_sum(-mixed(), "ab", 2, (("aa", 2), ("ba", -3), ("bb", -1)))
        self.assert_sum(cd_mixed() + cd_mixed(), "cd", 3, (("ccc", 2), ("cd", -2), ("dc", 4)))

    def test_zero_sums(self):
        for word_sum in (mixed(), cd_mixed(), single("ab", ""), single("cd", "")):
            zero = zero_sum(word_sum.letters, word_sum.weight)
            self.assertEqual(word_sum + zero, word_sum)
            self.assertEqual(zero + word_sum, word_sum)
            self.assertEqual(word_sum - zero, word_sum)
            self.assertEqual(zero - word_sum, -word_sum)
            self.assertEqual(word_sum - word_sum, zero)
            self.assertEqual(word_sum + -word_sum, zero)
            self.assertEqual(-zero, zero)
            self.assertEqual(-(-word_sum), word_sum)

    def test_great_numbers(self):
        great = WordSum("ab", 1, [("a", NINES), ("b", -NINES)])
        self.assert_sum(great + great, "ab", 1, (("a", 2 * NINES), ("b", -2 * NINES)))
        self.assert_sum(-great, "ab", 1, (("a", -NINES), ("b", NINES)))

    def test_unlike_sums(self):
        for first, second, reason in (
            (mixed(), zero_sum("cd", 2), "letters"), (zero_sum("ab", 0), zero_sum("cd", 0), "letters"),
            (mixed(), cd_mixed(), "letters"), (zero_sum("cd", 9), zero_sum("ab", 0), "letters"),
            (mixed(), zero_sum("ab", 3), "weight"), (cd_mixed(), single("cd", "c"), "weight"),
            (zero_sum("ab", 9), zero_sum("ab", 8), "weight"),
        ):
            for left, right in ((first, second), (second, first)):
                self.assert_error(errors.UnlikeSums, (reason,), lambda: left + right)
                self.assert_error(errors.UnlikeSums, (reason,), lambda: left - right)


class Products(Asks, unittest.TestCase):
    """Point [28]: `*`."""

    def test_words_are_joined_the_left_one_first(self):
        self.assert_sum(single("ab", "ab") * single("ab", "b"), "ab", 3, (("abb", 1),))
        self.assert_sum(single("ab", "b") * single("ab", "ab"), "ab", 3, (("bab", 1),))
        self.assert_sum(single("cd", "cd") * single("cd", "d"), "cd", 5, (("cdd", 1),))
        left, right = WordSum("ab", 1, [("a", 2), ("b", -3)]), WordSum("ab", 2, [("ab", 5), ("ba", 7)])
        self.assert_sum(left * right, "ab", 3, (("aab", 10), ("aba", 14), ("bab", -15), ("bba", -21)))
        self.assert_sum(right * left, "ab", 3, (("aba", 10), ("abb", -15), ("baa", 14), ("bab", -21)))

    def test_each_word_with_each_other(self):
        left, right = WordSum("cd", 3, [("cd", 2), ("ccc", 3)]), WordSum("cd", 2, [("d", 5), ("cc", 7)])
        due = (("ccccc", 21), ("cccd", 15), ("cdcc", 14), ("cdd", 10))
        self.assert_sum(left * right, "cd", 5, due)
        both = WordSum("cd", 3, [("cd", 1), ("dc", 1)]) * WordSum("cd", 3, [("cd", 1), ("dc", -1)])
        self.assert_sum(both, "cd", 6, (("cdcd", 1), ("cddc", -1), ("dccd", 1), ("dcdc", -1)))
        minus = WordSum("ab", 1, [("a", 1), ("b", -1)])
        self.assert_sum(minus * minus, "ab", 2, (("aa", 1), ("ab", -1), ("ba", -1), ("bb", 1)))

    def test_the_empty_word(self):
        for word_sum in (mixed(), cd_mixed(), zero_sum("ab", 9), single("cd", "")):
            unit = single(word_sum.letters, "")
            self.assertEqual(unit * word_sum, word_sum)
            self.assertEqual(word_sum * unit, word_sum)
            self.assertEqual(word_sum * WordSum(word_sum.letters, 0, [("", -3)]), -3 * word_sum)

    def test_zero_sums(self):
        self.assert_sum(zero_sum("ab", 3) * mixed(), "ab", 5, ())
        self.assert_sum(mixed() * zero_sum("ab", 7), "ab", 9, ())
        self.assert_sum(zero_sum("cd", 0) * zero_sum("cd", 0), "cd", 0, ())
        self.assert_sum(zero_sum("cd", 4) * cd_mixed(), "cd", 7, ())

    def test_weights_of_nine_and_ten(self):
        five, four = single("ab", "ababa"), single("ab", "bbbb")
        self.assert_sum(five * four, "ab", 9, (("abababbbb", 1),))
        for first, second, total in (
            (five, five, 10), (zero_sum("ab", 9), single("ab", "a"), 10), (zero_sum("cd", 9), zero_sum("cd", 9), 18),
            (zero_sum("ab", 1), zero_sum("ab", 9), 10), (single("cd", "ddd"), single("cd", "dd"), 10),
            # Also for unlike letter pairs.
            (five, zero_sum("cd", 5), 10), (zero_sum("cd", 9), zero_sum("ab", 8), 17),
        ):
            for left, right in ((first, second), (second, first)):
                self.assert_error(errors.InvalidWeight, (total,), lambda: left * right)

    def test_unlike_letters(self):
        for first, second in ((mixed(), cd_mixed()), (zero_sum("ab", 0), zero_sum("cd", 0)),
                              (zero_sum("ab", 5), zero_sum("cd", 4)), (single("ab", ""), cd_mixed())):
            self.assert_error(errors.UnlikeSums, ("letters",), lambda: first * second)
            self.assert_error(errors.UnlikeSums, ("letters",), lambda: second * first)

    def test_integers_from_both_sides(self):
        for factor in (0, 1, -1, 2, 7, -60, BIG, NINES, -NINES):
            for word_sum in (mixed(), cd_mixed(), single("ab", ""), zero_sum("cd", 9)):
                due = tuple((word, number * factor) for word, number in word_sum.terms if factor != 0)
                for found in (word_sum * factor, factor * word_sum):
                    self.assert_sum(found, word_sum.letters, word_sum.weight, due)

    def test_great_products(self):
        great = WordSum("ab", 0, [("", NINES)])
        self.assert_sum(great * great, "ab", 0, (("", NINES * NINES),))
        self.assert_sum((great * great) * NINES, "ab", 0, (("", NINES ** 3),))


class Reading(Asks, unittest.TestCase):
    """Point [28]: iteration, `in`, truth and the methods."""

    def test_iteration(self):
        self.assertEqual(list(mixed()), [("aa", -2), ("ba", 3), ("bb", 1)])
        self.assertEqual(tuple(cd_mixed()), cd_mixed().terms)
        self.assertEqual(list(zero_sum("ab", 3)), [])
        self.assertEqual(dict(mixed()), {"aa": -2, "ba": 3, "bb": 1})
        word_sum = mixed()
        self.assertEqual([list(word_sum) for _ in range(2)], [list(word_sum.terms)] * 2)
        self.assertEqual([(x, y) for x in word_sum for y in word_sum],
                         [(x, y) for x in word_sum.terms for y in word_sum.terms])

    def test_words_in_a_sum(self):
        for word in ("aa", "ba", "bb"):
            self.assertIs(word in mixed(), True)
            self.assertIs(word not in mixed(), False)
        for word in ("ab", "", "a", "aaa", "cc", "d", "q", "aa\n", "a" * 20000):
            self.assertIs(word in mixed(), False)
        for letters in PAIRS:
            self.assertIs("" in single(letters, ""), True)
            self.assertIs("" in zero_sum(letters, 0), False)
        self.assertIs("ab" in WordSum("ab", 2, [("ab", 0)]), False)

    def test_truth(self):
        for word_sum in (mixed(), cd_mixed(), single("ab", ""), WordSum("ab", 1, [("a", -1), ("b", 1)])):
            self.assertIs(bool(word_sum), True)
        for word_sum in (zero_sum("ab", 0), zero_sum("cd", 9), mixed() - mixed(), mixed() * 0):
            self.assertIs(bool(word_sum), False)

    def test_coefficients(self):
        self.assertEqual([mixed().coefficient(word) for word in ("aa", "ab", "ba", "bb")], [-2, 0, 3, 1])
        self.assertEqual(cd_mixed().coefficient(word="dc"), 2)
        for word in ("", "a", "cd", "d", "ccc", "q", "aa ", "aa\n", "AA", "aaa", "b" * 20000):
            self.assertEqual(mixed().coefficient(word), 0)
            self.assertIs(mixed().coefficient(word).__class__, int)
        self.assertEqual(WordSum("cd", 0, [("", 9)]).coefficient(""), 9)
        self.assertEqual(zero_sum("cd", 0).coefficient(""), 0)

    def test_reversed_words(self):
        word_sum = WordSum("ab", 3, [("aab", 1), ("baa", 2), ("aba", 3), ("bba", 4)])
        self.assert_sum(word_sum.reversed_words(), "ab", 3, (("aab", 2), ("aba", 3), ("abb", 4), ("baa", 1)))
        self.assert_sum(cd_mixed().reversed_words(), "cd", 3, (("ccc", 1), ("cd", 2), ("dc", -1)))
        for same in (zero_sum("cd", 5), single("ab", ""), single("cd", "cdc"), word_sum + word_sum.reversed_words()):
            self.assertEqual(same.reversed_words(), same)
        self.assertEqual(word_sum.reversed_words().reversed_words(), word_sum)

    def test_halved(self):
        word_sum = WordSum("ab", 2, [("aa", 4), ("ab", -6), ("bb", 2 * NINES)])
        self.assert_sum(word_sum.halved(), "ab", 2, (("aa", 2), ("ab", -3), ("bb", NINES)))
        self.assert_sum(zero_sum("cd", 3).halved(), "cd", 3, ())
        self.assertEqual((cd_mixed() * 2).halved(), cd_mixed())
        self.assert_sum(WordSum("ab", 0, [("", -2)]).halved(), "ab", 0, (("", -1),))

    def test_odd_numbers(self):
        for terms, word, number in (
            ([("aa", 1)], "aa", 1), ([("aa", -1)], "aa", -1), ([("bb", 3), ("aa", 2), ("ba", 5)], "ba", 5),
            ([("bb", 3), ("ab", -7), ("aa", 2)], "ab", -7), ([("bb", 1), ("ab", 2)], "bb", 1),
            ([("aa", NINES)], "aa", NINES), ([("aa", -NINES), ("bb", 1)], "aa", -NINES),
        ):
            self.assert_error(errors.OddNumber, (word, number), WordSum("ab", 2, terms).halved)
        self.assert_error(errors.OddNumber, ("", -3), WordSum("cd", 0, [("", -3)]).halved)

    def test_no_operator_changes_its_operands(self):
        left, right, terms = mixed(), WordSum("ab", 2, [("ab", 2)]), mixed().terms
        for found in (left + right, left - right, -left, left * right, left * 5, 5 * left, left * 0, left == right,
                      "ab" in left, bool(left), left.coefficient("aa"), left.reversed_words(), right.halved(),
                      list(left), power(left, 3), format_sum(left)):
            self.assertIsNotNone(found)
            self.assert_sum(left, "ab", 2, terms)
            self.assert_sum(right, "ab", 2, (("ab", 2),))
        for wrong in (lambda: left + cd_mixed(), lambda: left * zero_sum("ab", 8), left.halved):
            with self.assertRaises(errors.EvenOddsError):
                wrong()
            self.assert_sum(left, "ab", 2, terms)


class Makers(Asks, unittest.TestCase):
    """Point [29]."""

    def test_zero_sums(self):
        for letters in PAIRS:
            for weight in range(10):
                self.assert_sum(zero_sum(letters, weight), letters, weight, ())
            for weight in WRONG_WEIGHTS:
                self.assert_error(errors.InvalidWeight, (weight,), zero_sum, letters, weight)
        self.assert_sum(zero_sum(letters="cd", weight=2), "cd", 2, ())
        for letters in WRONG_LETTERS:
            self.assert_error(errors.InvalidLetters, (letters,), zero_sum, letters, 1)
            self.assert_error(errors.InvalidLetters, (letters,), zero_sum, letters, 10)

    def test_singles(self):
        for letters in PAIRS:
            for weight in range(10):
                for word in all_words(letters, weight):
                    self.assert_sum(single(letters, word), letters, weight, ((word, 1),))
        self.assert_sum(single(letters="cd", word="cdc"), "cd", 4, (("cdc", 1),))

    def test_errors_of_singles(self):
        for letters, word, weight in (("ab", "a" * 10, 10), ("cd", "d" * 5, 10), ("cd", "c" + "d" * 5, 11),
                                      ("cd", "dddcccc", 10), ("cd", "d" * 20000, 40000), ("ab", "ab" * 10000, 20000)):
            self.assert_error(errors.InvalidWeight, (weight,), single, letters, word)
        for letters, word in (("ab", "c"), ("ab", "abd"), ("cd", "a"), ("cd", "ab"), ("ab", " "), ("ab", "a\n"),
                              ("cd", "C"), ("ab", "a" * 10 + "c"), ("cd", "d" * 19999 + "b"), ("ab", "ba-")):
            self.assert_error(errors.InvalidWord, (word,), single, letters, word)
        for letters in WRONG_LETTERS:
            for word in ("", "a", "q", "a" * 10):
                self.assert_error(errors.InvalidLetters, (letters,), single, letters, word)

    def test_weights_of_words(self):
        for letters, word, weight in (("ab", "", 0), ("cd", "", 0), ("ab", "ab", 2), ("cd", "cd", 3), ("cd", "dd", 4),
                                      ("ab", "ab" * 10000, 20000), ("cd", "d" * 20000, 40000),
                                      ("cd", "cd" * 3000, 9000), ("ab", "b" * 11, 11)):
            self.assertEqual(word_weight(letters, word), weight)
            self.assertEqual(word_weight(letters=letters, word=word), weight)
        for letters, word in (("ab", "c"), ("cd", "ca"), ("ab", "a b"), ("cd", "c\n"), ("ab", "A"),
                              ("ab", "a" * 19999 + "d")):
            self.assert_error(errors.InvalidWord, (word,), word_weight, letters, word)
        for letters in WRONG_LETTERS:
            self.assert_error(errors.InvalidLetters, (letters,), word_weight, letters, "")
            self.assert_error(errors.InvalidLetters, (letters,), word_weight, letters, "q")

    def test_powers(self):
        base = WordSum("ab", 1, [("a", 1), ("b", -1)])
        self.assert_sum(power(base, 1), "ab", 1, base.terms)
        self.assert_sum(power(base, 3), "ab", 3, tuple((word, (-1) ** word.count("b")) for word in all_words("ab", 3)))
        self.assertEqual(power(base=mixed(), exponent=3), mixed() * mixed() * mixed())
        square = WordSum("cd", 2, [("cc", 1), ("d", -2)])
        self.assert_sum(power(square, 2), "cd", 4, (("cccc", 1), ("ccd", -2), ("dcc", -2), ("dd", 4)))
        self.assert_sum(power(single("cd", "cd"), 3), "cd", 9, (("cdcdcd", 1),))
        self.assert_sum(power(zero_sum("ab", 3), 3), "ab", 9, ())

    def test_exponent_zero(self):
        for letters in PAIRS:
            for base in [zero_sum(letters, weight) for weight in range(10)] + [single(letters, "")]:
                self.assert_sum(power(base, 0), letters, 0, (("", 1),))
        self.assert_sum(power(mixed(), 0), "ab", 0, (("", 1),))
        self.assert_sum(power(WordSum("ab", 0, [("", 5)]), 0), "ab", 0, (("", 1),))

    def test_negative_exponents(self):
        for base in (mixed(), zero_sum("ab", 0), zero_sum("cd", 9), single("cd", "")):
            for exponent in (-1, -2, -60, -61, -BIG, -NINES):
                self.assert_error(errors.InvalidSize, (exponent,), power, base, exponent)

    def test_weights_beyond_nine(self):
        for weight in range(1, 10):
            for base in (zero_sum("ab", weight), zero_sum("cd", weight)):
                self.assert_sum(power(base, 9 // weight), base.letters, weight * (9 // weight), ())
                for exponent in (9 // weight + 1, 60, 61, BIG, NINES):
                    # The weight goes first, also where the exponent alone is too great.
                    self.assert_error(errors.InvalidWeight, (weight * exponent,), power, base, exponent)

    def test_powers_of_weight_zero(self):
        for letters in PAIRS:
            base = WordSum(letters, 0, [("", -2)])
            for exponent in (1, 9, 10, 11, 59, 60):
                self.assert_sum(power(base, exponent), letters, 0, (("", (-2) ** exponent),))
            self.assert_sum(power(zero_sum(letters, 0), 60), letters, 0, ())
            for exponent in (61, 62, BIG, NINES):
                for base in (single(letters, ""), zero_sum(letters, 0)):
                    self.assert_error(errors.InvalidSize, (exponent,), power, base, exponent)


class Texts(Asks, unittest.TestCase):
    """Point [30]."""

    texts = (
        ("ab", 0, [], "0"), ("cd", 9, [], "0"), ("ab", 3, [("aab", 0)], "0"),
        ("ab", 0, [("", 1)], "1"), ("cd", 0, [("", -1)], "-1"), ("ab", 0, [("", 12)], "12"),
        ("cd", 0, [("", -120)], "-120"), ("ab", 0, [("", BIG)], str(BIG)), ("ab", 0, [("", -NINES)], str(-NINES)),
        ("ab", 1, [("a", 1)], "a"), ("ab", 1, [("a", -1)], "-a"), ("ab", 1, [("b", 2)], "2b"),
        ("ab", 1, [("b", -2)], "-2b"), ("ab", 1, [("a", 1), ("b", 1)], "a + b"),
        ("ab", 1, [("b", -1), ("a", 1)], "a - b"), ("ab", 1, [("b", 1), ("a", -1)], "-a + b"),
        ("ab", 1, [("b", -1), ("a", -1)], "-a - b"),
        ("ab", 1, [("b", -10), ("a", -21)], "-21a - 10b"), ("ab", 1, [("b", 11), ("a", 10)], "10a + 11b"),
        ("cd", 3, [("dc", 2), ("ccc", 1), ("cd", -1)], "ccc - cd + 2dc"),
        ("cd", 2, [("cc", NINES), ("d", -NINES)], f"{NINES}cc - {NINES}d"),
        ("cd", 4, [("dd", 1), ("cccc", -101), ("ccd", 100)], "-101cccc + 100ccd + dd"),
        ("ab", 2, [("bb", 1), ("ba", 2), ("ab", 2), ("aa", 1)], "aa + 2ab + 2ba + bb"),
    )

    def test_texts(self):
        for letters, weight, terms, text in self.texts:
            word_sum = WordSum(letters, weight, terms)
            self.assertEqual(format_sum(word_sum), text)
            self.assertEqual(format_sum(word_sum=word_sum), text)
            self.assertEqual(parse_sum(text, letters, weight=weight), word_sum)
            self.assert_sum(parse_sum(text=text, letters=letters, weight=weight), letters, weight, word_sum.terms)

    def test_zero_for_every_weight(self):
        for letters in PAIRS:
            for weight in range(10):
                self.assertEqual(format_sum(zero_sum(letters, weight)), "0")
                self.assert_sum(parse_sum("0", letters, weight=weight), letters, weight, ())

    def test_weight_is_passed_by_name_alone(self):
        with self.assertRaises(TypeError):
            parse_sum("0", "ab", 1)
        with self.assertRaises(TypeError):
            parse_sum("0", "ab")

    def assert_no_sum(self, letters, weight, *texts):
        for text in texts:
            self.assert_error(errors.InvalidText, (1,), parse_sum, text, letters, weight=weight)

    def test_terms_out_of_sequence_and_words_twice(self):
        self.assert_no_sum("ab", 1, "b + a", "b - a", "-b + a", "2b + 3a", "a + a", "a - a", "2a + a", "b + b",
                           "a + b + a", "a + a + b", "b + a + b", "a - a + b")
        self.assert_no_sum("cd", 3, "cd + ccc", "dc + ccc", "dc + cd", "ccc + dc + cd", "ccc - cd - cd")

    def test_zeros_and_ones(self):
        self.assert_no_sum("ab", 1, "0a", "a + 0b", "0a + b", "a + 0", "0 + a", "a - 0", "0 - a", "a - 0b", "-0", "-0a",
                           "+0", "00", "000", "0 ", " 0", "0 + 0", "0 - 0", "0\n", "--0")
        self.assert_no_sum("ab", 1, "1a", "-1a", "a + 1b", "a - 1b", "1a + b", "01a", "1", "-1", "1 + a")
        self.assert_no_sum("ab", 0, "00", "-0", "+0", "01", "-01", "+1", "1 + 1", "1 - 1", "0 + 1", "1 + 0", "", "-",
                           "a", "c", "1a", "1 ", " 1", "- 1", "--1", "1-", "2 + 3", "1\n", "\n", "1 + -1")
        self.assert_no_sum("cd", 0, "", "-", "00", "-0", "1c", "1 + 1", " ", "  ", " + ", " - ")

    def test_leading_zeros_and_signs(self):
        self.assert_no_sum("ab", 1, "02a", "-02a", "a + 02b", "002a", "+a", "+2a", "+ a", "- a", "--a", "-+a", "+-a",
                           "a + -b", "a + +b", "a - -b", "a - +b", "a +- b", "a + - b", "a -+ b", "a -- b", "-", "+",
                           "a +", "a -", "a + ", "a - ", " + a", " - a", "+ ", "- ", "a + + b", "a - - b")

    def test_spaces_and_line_feeds(self):
        self.assert_no_sum("ab", 1, "", " ", "  ", " a", "a ", "a  + b", "a +  b", "a+b", "a +b", "a+ b", "a-b", "a -b",
                           "a- b", "2 a", "-2 a", "a + 2 b", "- 2a", "a\n", "\na", "a\n+ b", "a +\nb", "a + b\n", "\n",
                           "a b", "a + b ", " a + b", "2a +  3b", "a  b", "a\n\nb", "2\na")

    def test_other_words(self):
        self.assert_no_sum("ab", 1, "aa", "c", "d", "a + bb", "a + c", "A", "aB", "q", "a2", "2a2", "a2b", "2a + 3",
                           "a1", "2", "-2", "a + 2", "2 + b", "a*b", "2*a", "a,b", "(a)", "a + (b)", "ab", "_", "1_0a")
        self.assert_no_sum("cd", 3, "cc", "dd", "d", "ab", "aab", "ccc + dd", "ccc + c", "ccd", "c2d", "2c + d", "c d")
        self.assert_no_sum("cd", 2, "ab", "aa", "c", "d + cc")

    def test_every_other_character(self):
        for character in "\n" + "".join(chr(code) for code in range(32, 127) if chr(code) not in "ab%"):
            for text in ("a" + character, character + "a", "a + " + character + "b", "a + b" + character):
                if text != "-a" and character not in "23456789":
                    self.assert_no_sum("ab", 1, text)
            for word in (character, "a" + character, character + "b"):
                self.assert_error(errors.InvalidWord, (word,), single, "ab", word)
                self.assert_error(errors.InvalidWord, (word,), word_weight, "ab", word)
                self.assert_error(errors.InvalidWord, (word,), WordSum, "ab", len(word), [(word, 1)])

    def test_many_digits(self):
        for letters, weight, word in (("ab", 0, ""), ("ab", 1, "a"), ("cd", 3, "cd")):
            for number in (10 ** 59, 10 ** 60 - 1, 2 * 10 ** 59):
                for sign in (1, -1):
                    word_sum = WordSum(letters, weight, [(word, sign * number)])
                    self.assertEqual(parse_sum(format_sum(word_sum), letters, weight=weight), word_sum)
            for number in (10 ** 60, 10 ** 60 + 1, 10 ** 61 - 1, 10 ** 100, 10 ** 899):
                for sign in (1, -1):
                    # It can be written, but not read.
                    word_sum = WordSum(letters, weight, [(word, 1)]) * (sign * number)
                    text = ("-" if sign < 0 else "") + str(number) + word
                    self.assertEqual(format_sum(word_sum), text)
                    self.assert_no_sum(letters, weight, text)
        self.assert_no_sum("ab", 1, f"{NINES}a + {10 * BIG}b", f"{10 * BIG}a - {NINES}b", f"a - {NINES}9b")
        self.assertEqual(len(parse_sum(f"{NINES}a - {NINES}b", "ab", weight=1).terms), 2)

    def test_texts_of_digits_near_the_greatest_length(self):
        for digits in ("9" * 20000, "0" * 20000, "1" * 19999 + "a", "0" * 19999 + "1", "-" + "7" * 19999):
            self.assert_no_sum("ab", 1, digits)
            self.assert_no_sum("ab", 0, digits)
        self.assert_no_sum("ab", 1, "-" * 20000, " " * 20000, "a" * 20000, " + " * 6666, "a + " * 5000, "\n" * 20000,
                           "a - " * 5000 + "b", "2a + " * 3999 + "3b")

    def test_long_texts(self):
        words = all_words("ab", 9)
        numbers = [(-1) ** at * (10 ** 25 + at) for at in range(len(words))]
        word_sum = WordSum("ab", 9, list(zip(words, numbers)))
        text = format_sum(word_sum)
        self.assertTrue(19000 < len(text) <= 20000)
        self.assertEqual(parse_sum(text, "ab", weight=9), word_sum)
        self.assert_no_sum("ab", 9, text + " ", text[:-1], text.replace("aab", "aba"))
        terms = text.split(" + ")
        self.assert_no_sum("ab", 9, " + ".join(terms[1:] + terms[:1]))

    def test_reading_undoes_writing(self):
        for letters in PAIRS:
            for weight in range(10):
                words = all_words(letters, weight)
                for numbers in ([1] * len(words), [-1] * len(words), [at % 4 - 2 for at in range(len(words))]):
                    word_sum = WordSum(letters, weight, list(zip(words, numbers)))
                    self.assertEqual(parse_sum(format_sum(word_sum), letters, weight=weight), word_sum)

    def test_which_error_goes_first(self):
        for letters in WRONG_LETTERS:
            for text in ("0", "q", ""):
                self.assert_error(errors.InvalidLetters, (letters,), parse_sum, text, letters, weight=1)
                self.assert_error(errors.InvalidLetters, (letters,), parse_sum, text, letters, weight=10)
        for weight in WRONG_WEIGHTS:
            for text in ("0", "q", "", "a"):
                self.assert_error(errors.InvalidWeight, (weight,), parse_sum, text, "ab", weight=weight)


if __name__ == "__main__":
    unittest.main()

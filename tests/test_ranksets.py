"""The module evenodds.ranksets: points [21] and [22]."""

import itertools
import unittest

from evenodds import errors
from evenodds.ranksets import complement, is_rank_set, rank_sets, ranks_of, subsets, word_of
from samples import BIG, WRONG_RANKS, WRONG_WEIGHTS, Asks


def sets_by_bits(weight):
    """All rank sets for the weight, sorted as the rank sequence is told."""
    found = [tuple(rank for rank in range(1, weight + 1) if bits >> rank & 1)
             for bits in range(0, 2 ** (weight + 1), 2)]
    return tuple(sorted(found, key=lambda ranks: (len(ranks), ranks)))


class RankSets(Asks, unittest.TestCase):
    def test_is_rank_set(self):
        self.assertIs(is_rank_set([1, 2], 3), True)
        self.assertIs(is_rank_set(ranks=(), weight=0), True)
        for weight in range(10):
            for ranks in sets_by_bits(weight):
                self.assertIs(is_rank_set(ranks, weight), True)
                self.assertIs(is_rank_set(list(ranks), weight), True)

    def test_is_rank_set_for_all_short_lists(self):
        for weight in range(4):
            for ranks in itertools.chain(*[itertools.product(range(-1, 6), repeat=count) for count in range(5)]):
                due = ranks in sets_by_bits(weight)
                self.assertIs(is_rank_set(ranks, weight), due)
                self.assertIs(is_rank_set(list(ranks), weight), due)

    def test_is_no_rank_set(self):
        for weight, ranks in WRONG_RANKS:
            self.assertIs(is_rank_set(ranks, weight), False)
            self.assertIs(is_rank_set(list(ranks), weight), False)

    def test_is_rank_set_for_wrong_weights(self):
        for weight in WRONG_WEIGHTS:
            for ranks in ((), (1,), (1, 2), (0,), (2, 1), (10,), [], [1]):
                self.assertIs(is_rank_set(ranks, weight), False)

    def test_rank_sets(self):
        self.assertEqual(rank_sets(0), ((),))
        self.assertEqual(rank_sets(1), ((), (1,)))
        self.assertEqual(rank_sets(weight=3), ((), (1,), (2,), (3,), (1, 2), (1, 3), (2, 3), (1, 2, 3)))
        for weight in range(10):
            self.assertEqual(rank_sets(weight), sets_by_bits(weight))
            self.assertEqual(len(rank_sets(weight)), 2 ** weight)

    def test_complement(self):
        self.assertEqual(complement([1, 3], 4), (2, 4))
        self.assertEqual(complement(ranks=(), weight=0), ())
        for weight in range(10):
            for ranks in sets_by_bits(weight):
                found = complement(ranks, weight)
                self.assertEqual(sorted(found + ranks), list(range(1, weight + 1)))
                self.assertEqual(found, tuple(sorted(found)))
                self.assertEqual(complement(list(ranks), weight), found)
                self.assertEqual(complement(found, weight), ranks)

    def test_subsets(self):
        self.assertEqual(subsets(()), ((),))
        self.assertEqual(subsets([]), ((),))
        self.assertEqual(subsets(ranks=[9]), ((), (9,)))
        self.assertEqual(subsets((2, 5, 9)), ((), (2,), (5,), (9,), (2, 5), (2, 9), (5, 9), (2, 5, 9)))
        for ranks in sets_by_bits(9)[::7] + (tuple(range(1, 10)),):
            due = tuple(part for part in sets_by_bits(9) if set(part) <= set(ranks))
            self.assertEqual(subsets(ranks), due)
            self.assertEqual(subsets(list(ranks)), due)


class RankErrors(Asks, unittest.TestCase):
    def test_wrong_weights(self):
        for weight in WRONG_WEIGHTS:
            self.assert_error(errors.InvalidWeight, (weight,), rank_sets, weight)
            for ranks in ((), [1], (0,), (2, 1), (10, 11)):
                self.assert_error(errors.InvalidWeight, (weight,), complement, ranks, weight)
                self.assert_error(errors.InvalidWeight, (weight,), word_of, ranks, weight)

    def test_wrong_ranks(self):
        for weight, ranks in WRONG_RANKS:
            for function in (complement, word_of):
                self.assert_error(errors.InvalidRanks, (ranks,), function, ranks, weight)
                self.assert_error(errors.InvalidRanks, (ranks,), function, list(ranks), weight)

    def test_subsets_take_rank_sets_for_weight_nine(self):
        for weight, ranks in WRONG_RANKS:
            if weight == 9:
                self.assert_error(errors.InvalidRanks, (ranks,), subsets, ranks)
                self.assert_error(errors.InvalidRanks, (ranks,), subsets, list(ranks))
        for ranks in ((2, 1), (1, 1), (0,), (0, 1), (-1,), (BIG,), (3, 5, 4), (1, 10)):
            self.assert_error(errors.InvalidRanks, (ranks,), subsets, ranks)

    def test_an_error_keeps_no_list(self):
        ranks = [2, 1]
        with self.assertRaises(errors.InvalidRanks) as caught:
            word_of(ranks, 3)
        ranks.clear()
        self.assertEqual(caught.exception.ranks, (2, 1))


class Words(Asks, unittest.TestCase):
    def test_words(self):
        self.assertEqual(word_of((), 0), "")
        self.assertEqual(word_of([], 3), "aaa")
        self.assertEqual(word_of(ranks=[1, 3], weight=4), "baba")
        self.assertEqual(word_of((2,), 2), "ab")
        self.assertEqual(word_of((9,), 9), "aaaaaaaab")
        self.assertEqual(word_of(tuple(range(1, 10)), 9), "bbbbbbbbb")

    def test_ranks(self):
        self.assertEqual(ranks_of(""), ())
        self.assertEqual(ranks_of("baba"), (1, 3))
        self.assertEqual(ranks_of(word="ab"), (2,))
        self.assertEqual(ranks_of("aaaaaaaaa"), ())
        self.assertEqual(ranks_of("aaaaaaaab"), (9,))
        self.assertEqual(ranks_of("bbbbbbbbb"), tuple(range(1, 10)))

    def test_each_undoes_the_other(self):
        for weight in range(10):
            words = ["".join(letters) for letters in itertools.product("ab", repeat=weight)]
            self.assertEqual(sorted(word_of(ranks, weight) for ranks in rank_sets(weight)), words)
            for word in words:
                self.assertEqual(word_of(ranks_of(word), weight), word)
                due = tuple(number for number in range(1, weight + 1) if word[number - 1] == "b")
                self.assertEqual(ranks_of(word), due)

    def test_wrong_words(self):
        wrong = ("c", "A", "aB", "ab ", " ab", "ab\n", "\n", "a b", "a-b", "1", "abd", "ca", "cd", "~", "b.", "a" * 10,
                 "b" * 10, "a" * 9 + "c", "a" * 9 + "\n", "a" * 20000, "ab" * 500, "x" * 9)
        for word in wrong:
            self.assert_error(errors.InvalidWord, (word,), ranks_of, word)


if __name__ == "__main__":
    unittest.main()

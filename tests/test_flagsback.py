"""The module evenodds.flagsback: points [45] to [48]."""

import random
import unittest

from evenodds import errors
from evenodds.absum import sum_of_betas
from evenodds.cdread import is_readable
from evenodds.cdwords import cd_count, word_of_first
from evenodds.counts import Counts, alphas, betas_of_alphas
from evenodds.evencheck import is_even
from evenodds.flagsback import (
    balance_sides,
    broken_balance,
    few_numbers,
    is_balanced,
    is_sparse,
    sparse_sets,
    told_back,
)
from evenodds.products import laid, prism
from evenodds.ranksets import rank_sets, word_of
from samples import (
    BIG,
    WRONG_RANKS,
    WRONG_WEIGHTS,
    Asks,
    crooked,
    diamond,
    full,
    line,
    random_orders,
    triangle,
    two,
    wide,
)


def even_orders():
    return [two(), diamond(), triangle(), full(2, 2, 2), full(2, 2, 2, 2, 2, 2, 2, 2), prism(triangle()),
            laid(triangle(), triangle())]


class Sparse(Asks, unittest.TestCase):
    """Point [45]."""

    def test_sparse_and_other_sets(self):
        for ranks in ((), (2,), (9,), (2, 4), (3, 5, 7, 9), (2, 4, 6, 8), (2, 9), (3, 6, 9)):
            self.assertIs(is_sparse(ranks), True)
            self.assertIs(is_sparse(list(ranks)), True)
            self.assertIs(is_sparse(ranks=ranks), True)
        for ranks in ((1,), (1, 3), (2, 3), (8, 9), (2, 4, 5), (1, 2), (2, 5, 6, 9), (3, 4, 6), (1, 9),
                      (1, 2, 3, 4, 5, 6, 7, 8, 9)):
            self.assertIs(is_sparse(ranks), False)
            self.assertIs(is_sparse(list(ranks)), False)

    def test_exactly_the_sets_of_first_words(self):
        for weight in range(10):
            for ranks in rank_sets(weight):
                self.assertIs(is_sparse(ranks), word_of_first(word_of(ranks, weight)) is not None)

    def test_wrong_ranks(self):
        for weight, ranks in WRONG_RANKS:
            if weight == 9 or 0 in ranks or list(ranks) != sorted(set(ranks)):
                self.assert_error(errors.InvalidRanks, (ranks,), is_sparse, ranks)
                self.assert_error(errors.InvalidRanks, (ranks,), is_sparse, list(ranks))
        for ranks in ((10,), (0,), (2, 2), (4, 2), (-1,), (2, 10), (1, 1), (BIG,)):
            self.assert_error(errors.InvalidRanks, (ranks,), is_sparse, list(ranks))

    def test_lists(self):
        for weight, due in ((0, ((),)), (1, ((),)), (2, ((), (2,))), (3, ((), (2,), (3,))),
                            (4, ((), (2,), (3,), (4,), (2, 4))),
                            (5, ((), (2,), (3,), (4,), (5,), (2, 4), (2, 5), (3, 5)))):
            self.assertEqual(sparse_sets(weight), due)
            self.assertEqual(sparse_sets(weight=weight), due)
        for weight in range(10):
            self.assertEqual(len(sparse_sets(weight)), cd_count(weight))
            self.assertEqual(sparse_sets(weight), tuple(ranks for ranks in rank_sets(weight) if is_sparse(ranks)))
        for weight in WRONG_WEIGHTS:
            self.assert_error(errors.InvalidWeight, (weight,), sparse_sets, weight)


class FewNumbers(Asks, unittest.TestCase):
    """Point [46]."""

    def test_few_numbers(self):
        counts = Counts(3, {(): 1, (1,): 2, (2,): 3, (3,): 4, (1, 3): 5, (2, 3): 6})
        self.assertEqual(few_numbers(counts), (1, 3, 4))
        self.assertEqual(few_numbers(counts=counts), (1, 3, 4))
        self.assertEqual(few_numbers(Counts(4, {(2, 4): BIG, (1, 4): 5})), (0, 0, 0, 0, BIG))
        self.assertEqual(few_numbers(Counts(0, {(): -6})), (-6,))
        self.assertEqual(few_numbers(alphas(triangle())), (1, 3))
        for weight in range(10):
            self.assertEqual(few_numbers(Counts(weight, {})), (0,) * cd_count(weight))

    def test_told_back(self):
        self.assertEqual(told_back(0, [7]), Counts(0, {(): 7}))
        self.assertEqual(told_back(1, (5,)), Counts(1, {(): 5, (1,): 10}))
        self.assertEqual(told_back(weight=2, numbers=[1, 3]), Counts(2, {(): 1, (1,): 3, (2,): 3, (1, 2): 6}))
        self.assertEqual(told_back(2, [-BIG, BIG]).pairs(), (((), -BIG), ((1,), BIG), ((2,), BIG), ((1, 2), 2 * BIG)))

    def test_any_numbers(self):
        source = random.Random(121)
        for weight in range(10):
            for _ in range(3):
                numbers = [source.randint(-9, 9) for _ in range(cd_count(weight))]
                found = told_back(weight, numbers)
                self.assertIs(found.__class__, Counts)
                self.assertEqual(found.weight, weight)
                self.assertEqual(few_numbers(found), tuple(numbers))
                self.assertEqual(told_back(weight, tuple(numbers)), found)
                self.assertIs(is_readable(sum_of_betas(betas_of_alphas(found))), True)

    def test_even_orders(self):
        for order in even_orders():
            counts = alphas(order)
            self.assertEqual(told_back(order.weight, few_numbers(counts)), counts)

    def test_wrong_counts(self):
        for weight in range(10):
            due = cd_count(weight)
            for given in (0, due - 1, due + 1, 1000):
                if given != due:
                    # Equal integers are each counted.
                    self.assert_error(errors.WrongCount, (due, given), told_back, weight, [3] * given)
                    self.assert_error(errors.WrongCount, (due, given), told_back, weight, tuple(range(given)))

    def test_wrong_weights(self):
        for weight in WRONG_WEIGHTS:
            for numbers in ([], [1], [1, 2, 3]):
                self.assert_error(errors.InvalidWeight, (weight,), told_back, weight, numbers)


class Balance(Asks, unittest.TestCase):
    """Points [47] and [48]."""

    def counts(self):
        return Counts(4, {ranks: 2 ** at for at, ranks in enumerate(rank_sets(4))})

    def test_sides(self):
        # The rank sets 1, 2, 3, 4, 12, 13, 14, 23, 24, 34, 123, 124, 134, 234, 1234 have 2, 4, 8 and so on.
        for ranks, low, sides in (
            ((), 0, (2 - 4 + 8 - 16, 0)), ((1,), 0, (0, 0)), ((1,), 1, (32 - 64 + 128, 2 * 2)), ((2,), 0, (32, 2 * 4)),
            ((2,), 2, (256 - 512, 0)), ((3,), 0, (64 - 256, 0)), ((3,), 3, (1024, 2 * 8)), ((4,), 4, (0, 0)),
            ((4,), 0, (128 - 512 + 1024, 2 * 16)), ((1, 3), 1, (2048, 2 * 64)), ((1, 3), 0, (0, 0)),
            ((1, 4), 1, (2 ** 12 - 2 ** 13, 0)), ((2, 4), 2, (2 ** 14, 2 * 512)), ((1, 2, 3, 4), 0, (0, 0)),
            ((1, 2, 3, 4), 4, (0, 0)), ((1, 2, 4), 2, (2 ** 15, 2 * 2 ** 12)),
        ):
            self.assertEqual(balance_sides(self.counts(), ranks, low), sides, (ranks, low))
            self.assertEqual(balance_sides(counts=self.counts(), ranks=list(ranks), low=low), sides)

    def test_small_weights(self):
        self.assertEqual(balance_sides(Counts(0, {(): 5}), (), 0), (0, 0))
        self.assertEqual(balance_sides(Counts(1, {(): 5, (1,): 7}), (), 0), (7, 10))
        self.assertEqual(balance_sides(Counts(1, {(): 5, (1,): 7}), (1,), 0), (0, 0))
        self.assertEqual(balance_sides(Counts(1, {(): 5, (1,): 7}), (1,), 1), (0, 0))

    def test_neighbours_have_zero_on_both_sides(self):
        counts = Counts(9, {ranks: BIG + at for at, ranks in enumerate(rank_sets(9))})
        for ranks in rank_sets(9):
            for low, high in zip((0,) + ranks, ranks + (10,)):
                if high == low + 1:
                    self.assertEqual(balance_sides(counts, ranks, low), (0, 0))

    def test_wrong_lows(self):
        for ranks, lows in (((), (1, 4, 5, -1, BIG)), ((2,), (1, 3, -2, 5)), ((1, 3), (2, 4, -1)),
                            ((4,), (5, 3, -BIG))):
            for low in lows:
                self.assert_error(errors.InvalidSize, (low,), balance_sides, self.counts(), ranks, low)
                self.assert_error(errors.InvalidSize, (low,), balance_sides, self.counts(), list(ranks), low)

    def test_wrong_ranks_go_first(self):
        for weight, ranks in WRONG_RANKS:
            counts = Counts(weight, {})
            for low in (0, 1, -1, 77, *ranks[:2]):
                self.assert_error(errors.InvalidRanks, (ranks,), balance_sides, counts, ranks, low)
                self.assert_error(errors.InvalidRanks, (ranks,), balance_sides, counts, list(ranks), low)

    def test_broken(self):
        for counts, due in (
            (Counts(0, {(): 5}), None), (Counts(1, {(): 5, (1,): 10}), None), (Counts(1, {}), None),
            (Counts(1, {(): 5}), ((), 0, 0, 10)), (Counts(2, {(1,): 1}), ((), 0, 1, 0)),
            (Counts(2, {(1,): 1, (2,): 1}), ((1,), 1, 0, 2)), (Counts(2, {(1,): 1, (2,): 1, (1, 2): 2}), None),
            (self.counts(), ((), 0, -10, 0)), (Counts(3, {(1, 2, 3): 1}), ((1, 2), 2, 1, 0)),
            (Counts(3, {(1, 3): 1}), ((1,), 1, -1, 0)), (Counts(3, {(3,): 1}), ((), 0, 1, 0)),
            (Counts(3, {(): 1}), ((), 0, 0, 2)), (Counts(3, {(2,): 2, (1,): 2}), ((2,), 0, 0, 4)),
        ):
            self.assertEqual(broken_balance(counts), due)
            self.assertEqual(broken_balance(counts=counts), due)
            self.assertIs(is_balanced(counts), due is None)
            self.assertIs(is_balanced(counts=counts), due is None)

    def first_broken(self, counts):
        for ranks in rank_sets(counts.weight):
            for low in (0,) + ranks:
                left, right = balance_sides(counts, ranks, low)
                if left != right:
                    return (ranks, low, left, right)
        return None

    def test_the_first_in_the_rank_sequence_with_low_ascending(self):
        source = random.Random(122)
        for weight in (1, 2, 3, 4, 5, 6) * 4:
            counts = told_back(weight, [source.randint(-3, 3) for _ in range(cd_count(weight))])
            self.assertIsNone(broken_balance(counts))
            chosen = source.choice(rank_sets(weight))
            counts = counts + Counts(weight, {chosen: source.choice((1, -2))})
            self.assertEqual(broken_balance(counts), self.first_broken(counts))

    def test_balanced_exactly_if_readable(self):
        source = random.Random(123)
        for order in random_orders(source, 80) + even_orders() + [crooked(), line(10), wide(40)]:
            if order.height > 0:
                counts = alphas(order)
                self.assertIs(is_balanced(counts), is_readable(sum_of_betas(betas_of_alphas(counts))))
                if is_even(order):
                    self.assertIs(is_balanced(counts), True)
        for weight in range(7):
            counts = Counts(weight, {ranks: source.randint(0, 1) for ranks in rank_sets(weight)})
            self.assertIs(is_balanced(counts), is_readable(sum_of_betas(betas_of_alphas(counts))))

    def test_the_greatest_weight(self):
        source = random.Random(124)
        counts = told_back(9, [source.randint(-9, 9) for _ in range(55)])
        self.assertIs(is_balanced(counts), True)
        self.assertIs(is_balanced(counts + Counts(9, {(1, 2, 3, 4, 5, 6, 7, 8, 9): 1})), False)


if __name__ == "__main__":
    unittest.main()

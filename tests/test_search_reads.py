"""The program and the second telling in plain_reads.py agree on many sums, orders and arguments."""

import itertools
import random
import unittest

from evenodds.cdread import cd_sum, is_readable, is_reading, read_cd, reading, unread_stretch
from evenodds.counts import Counts
from evenodds.cdwords import spread
from evenodds.flagsback import balance_sides, broken_balance, few_numbers, is_balanced, sparse_sets, told_back
from evenodds.letterrules import lifted, prism_sum, pyramid_sum, splits, splits_by_tops
from evenodds.products import laid, prism, product, pyramid, turned
from evenodds.recur import ab_sum_by_tops, cd_by_tops, doubled_cd, top_parts
from plain_counts import Told, all_rank_sets, counts_answer
from plain_reads import (
    balance_answer,
    broken_value,
    doubled_answer,
    laid_answer,
    lifted_answer,
    plus,
    power_of,
    prism_answer,
    prism_of,
    product_answer,
    pyramid_answer,
    pyramid_of,
    read_answer,
    reading_of,
    MINUS,
    sparse,
    splits_by_tops_of,
    splits_of,
    told_back_table,
    tops_of,
    turned_answer,
    unread_term,
)
from plain_sums import first_stretch_value, letter_sum, sum_answer
from samples import answer, crooked, diamond, full, line, one, shown, triangle, two, wide
from told_samples import many_orders, many_sums, told_sum


class Readings(unittest.TestCase):
    def test_sums(self):
        sums = many_sums("ab", range(7), 82) + [spread(t) for t in many_sums("cd", range(7), 83)]
        for word_sum in sums:
            part, rest = reading_of(told_sum(word_sum))
            self.assertEqual(tuple(map(shown, reading(word_sum))), (sum_answer(part), sum_answer(rest)))
            self.assertIs(is_readable(word_sum), not rest[2])
            self.assertEqual(answer(read_cd, word_sum), read_answer(told_sum(word_sum)))

    def test_all_small_triples(self):
        sums = many_sums("ab", range(3), 84, 4) + many_sums("cd", range(3), 85, 4)
        sums += [part for word_sum in sums if word_sum.letters == "ab" for part in reading(word_sum)]
        for word_sum, part, rest in itertools.product(sums, repeat=3):
            due = False
            if word_sum.letters == "ab":
                due = (told_sum(part), told_sum(rest)) == reading_of(told_sum(word_sum))
            self.assertIs(is_reading(word_sum, part, rest), due)

    def test_orders(self):
        for order, told in many_orders(60):
            due = ("error", "TooLow", (0,)) if order.height == 0 else read_answer(letter_sum(told))
            self.assertEqual(answer(cd_sum, order), due)
            due = first_stretch_value(told, unread_term) if order.size <= 16 else ()
            if due != ():
                self.assertEqual(unread_stretch(order), due)


class Tops(unittest.TestCase):
    def test_orders(self):
        for order, told in many_orders(60):
            if order.height == 0:
                continue
            due = tops_of(told)
            self.assertEqual([(top, shown(part)) for top, part in top_parts(order)],
                             [(top, sum_answer(part)) for top, part in due])
            total = power_of(MINUS, order.weight)
            for _, part in due:
                total = plus(total, part)
            self.assertEqual(shown(ab_sum_by_tops(order)), sum_answer(total))
            self.assertEqual(sum_answer(total), sum_answer(letter_sum(told)))

    def test_doubled(self):
        for order, told in many_orders(60):
            due = doubled_answer(told)
            self.assertEqual(answer(doubled_cd, order), due)
            if due[0] == "sum":
                due = due[:3] + (tuple((word, number // 2) for word, number in due[3]),)
            self.assertEqual(answer(cd_by_tops, order), due)


class FewNumbers(unittest.TestCase):
    def test_sets(self):
        for weight in range(10):
            due = tuple(ranks for ranks in all_rank_sets(weight) if sparse(ranks))
            self.assertEqual(sparse_sets(weight), due)

    def test_told_back(self):
        source = random.Random(86)
        for weight in range(7):
            sets = sparse_sets(weight)
            for _ in range(4):
                numbers = [source.randint(-9, 9) for _ in sets]
                table = told_back_table(weight, numbers)
                self.assertEqual(answer(told_back, weight, numbers), counts_answer(weight, table))
                self.assertEqual(few_numbers(Counts(weight, table)), tuple(numbers))
                self.assertIsNone(broken_value(weight, table))

    def test_balance(self):
        source = random.Random(87)
        for weight in (0, 1, 2, 3, 4, 5) * 3:
            table = {ranks: source.randint(-3, 3) for ranks in all_rank_sets(weight)}
            if source.random() < 0.4:
                table = told_back_table(weight, [source.randint(-3, 3) for _ in sparse_sets(weight)])
            counts = Counts(weight, table)
            self.assertEqual(broken_balance(counts), broken_value(weight, table))
            self.assertIs(is_balanced(counts), broken_value(weight, table) is None)
            for ranks in all_rank_sets(weight) + [(weight + 1,), (2, 1), (0,)]:
                for low in range(-1, weight + 3):
                    due = balance_answer(weight, table, ranks, low)
                    self.assertEqual(answer(balance_sides, counts, list(ranks), low), due)


class Products(unittest.TestCase):
    def test_one_order(self):
        more = (wide(14), wide(15), wide(20), wide(21), line(9), line(10), wide(40), full(3, 3, 3, 3))
        for order, told in many_orders(60) + [(order, Told(order.names, order.covers)) for order in more]:
            self.assertEqual(answer(turned, order), turned_answer(told))
            self.assertEqual(answer(pyramid, order), pyramid_answer(told))
            self.assertEqual(answer(prism, order), prism_answer(told))

    def test_two_orders(self):
        orders = [one(), two(), diamond(), triangle(), crooked(), line(5), line(6), line(9), full(1, 2), wide(12)]
        pairs = [(order, Told(order.names, order.covers)) for order in orders]
        for (first, x), (second, y) in itertools.product(pairs, repeat=2):
            self.assertEqual(answer(laid, first, second), laid_answer(x, y))
            self.assertEqual(answer(product, first, second), product_answer(x, y))


class LetterRules(unittest.TestCase):
    def test_splits(self):
        for word_sum in many_sums("ab", range(6), 88):
            self.assertEqual(splits(word_sum), splits_of(told_sum(word_sum)))
        for order, told in many_orders(60):
            if order.height > 0:
                self.assertEqual(splits_by_tops(order), splits_by_tops_of(told))

    def test_lifted(self):
        images = many_sums("ab", range(4), 89, 2) + many_sums("cd", range(5), 90, 2)
        for word_sum in many_sums("ab", (0, 1, 2, 3, 9), 91, 3) + many_sums("cd", (0, 1, 2, 3, 9), 92, 3):
            for first, second in itertools.product(images, repeat=2):
                due = lifted_answer(*map(told_sum, (word_sum, first, second)))
                self.assertEqual(answer(lifted, word_sum, first, second), due)

    def test_pyramids_and_prisms(self):
        for word_sum in many_sums("ab", range(6), 93) + many_sums("cd", range(7), 94):
            self.assertEqual(shown(pyramid_sum(word_sum)), sum_answer(pyramid_of(told_sum(word_sum))))
            self.assertEqual(shown(prism_sum(word_sum)), sum_answer(prism_of(told_sum(word_sum))))


if __name__ == "__main__":
    unittest.main()

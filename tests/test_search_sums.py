"""The program and the second telling in plain_sums.py agree on many sums, orders and arguments."""

import itertools
import random
import unittest

from evenodds.absum import ab_sum, stretch_sum
from evenodds.cdwords import cd_words, first_word, spread, word_of_first
from evenodds.mirror import mirrored, unmirrored_ranks, unmirrored_stretch, unmirrored_word
from evenodds.moebius import (
    is_mu_table,
    mu,
    mu_by_struck,
    mu_table,
    mu_without,
    selected,
    signed_total,
    unlike_mu,
)
from evenodds.words import WordSum, format_sum, parse_sum, power
from plain_counts import Told
from plain_sums import (
    first_stretch_value,
    is_first,
    letter_sum,
    made_answer,
    mirror_of,
    mu_answer,
    mu_by_struck_answer,
    mu_pairs,
    mu_without_answer,
    plus_answer,
    power_answer,
    selected_answer,
    signed_total_answer,
    spread_of,
    stretch_sum_answer,
    sum_answer,
    sum_text,
    times_answer,
    unlike_mu_value,
    unmirrored_ranks_value,
    unmirrored_value,
    words_of,
)
from samples import answer, crooked, diamond, full, line, one, random_orders, shown, some_sums, triangle, two


def many_orders(count):
    """Each order with its second telling."""
    orders = [one(), two(), line(3), line(6), diamond(), crooked(), triangle(), full(1, 2, 2), full(2, 2, 2)]
    orders += random_orders(random.Random(41), count)
    return [(order, Told(order.names, order.covers)) for order in orders]


def told_sum(word_sum):
    return (word_sum.letters, word_sum.weight, dict(word_sum.terms))


def many_sums(seed):
    source = random.Random(seed)
    return [word_sum for letters in ("ab", "cd") for weight in range(5) for word_sum in
            some_sums(letters, weight, source, 4)]


class Sums(unittest.TestCase):
    def test_constructor(self):
        source = random.Random(42)
        for letters in ("ab", "cd", "ba", "ac"):
            for weight in (-1, 0, 1, 2, 3, 4, 10):
                for _ in range(20):
                    texts = words_of("ab" if source.random() < 0.5 else "cd", max(min(weight, 4), 0))
                    texts += ["q", "c"] * (source.random() < 0.2)
                    terms = [(source.choice(texts), source.randint(-2, 2)) for _ in range(source.randint(0, 6))]
                    self.assertEqual(answer(WordSum, letters, weight, terms), made_answer(letters, weight, terms))

    def test_operators(self):
        for first, second in itertools.product(many_sums(43), repeat=2):
            x, y = told_sum(first), told_sum(second)
            self.assertEqual(answer(lambda: first + second), plus_answer(x, y, 1))
            self.assertEqual(answer(lambda: first - second), plus_answer(x, y, -1))
            self.assertEqual(answer(lambda: first * second), times_answer(x, y))
            self.assertIs(first == second, x == y)

    def test_powers(self):
        for base in many_sums(44):
            for exponent in (-2, -1, 0, 1, 2, 3, 4, 5, 9, 10, 60, 61):
                self.assertEqual(answer(power, base, exponent), power_answer(told_sum(base), exponent))

    def test_texts(self):
        for word_sum in many_sums(45):
            text = sum_text(told_sum(word_sum))
            self.assertEqual(format_sum(word_sum), text)
            self.assertEqual(parse_sum(text, word_sum.letters, weight=word_sum.weight), word_sum)

    def test_all_short_texts(self):
        for letters, weight, signs in (("ab", 0, "01- "), ("ab", 1, "ab1+- "), ("cd", 2, "cd2- ")):
            good = {}
            words = words_of(letters, weight)
            for numbers in itertools.product(range(-23, 24), repeat=len(words)):
                told = (letters, weight, {word: number for word, number in zip(words, numbers) if number != 0})
                good[sum_text(told)] = sum_answer(told)
            for size in range(7):
                for text in map("".join, itertools.product(signs, repeat=size)):
                    found = answer(parse_sum, text, letters, weight=weight)
                    if text not in good and found[0] == "sum":
                        # A number beyond those that were made here; its digits are all there.
                        self.assertEqual(sum_text((letters, weight, dict(found[3]))), text)
                        self.assertGreater(max(abs(number) for _, number in found[3]), 23)
                    else:
                        self.assertEqual(found, good.get(text, ("error", "InvalidText", (1,))), text)


class LetterSums(unittest.TestCase):
    def test_orders_and_stretches(self):
        for order, told in many_orders(40):
            if order.height > 0:
                self.assertEqual(shown(ab_sum(order)), sum_answer(letter_sum(told)))
            for low, high in itertools.product(order.names + ("q", "B"), repeat=2):
                self.assertEqual(answer(stretch_sum, order, low, high), stretch_sum_answer(told, low, high))


class Moebius(unittest.TestCase):
    def test_all_ends(self):
        for order, told in many_orders(60):
            for low, high in itertools.product(order.names + ("q", "B"), repeat=2):
                self.assertEqual(answer(mu, order, low, high), mu_answer(told, low, high))
                self.assertEqual(answer(signed_total, order, low, high), signed_total_answer(told, low, high))

    def test_tables(self):
        for order, told in many_orders(60):
            pairs = mu_pairs(told)
            self.assertEqual(tuple(mu_table(order).items()), pairs)
            self.assertEqual(unlike_mu(order), unlike_mu_value(told))
            self.assertIs(is_mu_table(order, dict(pairs[::-1])), True)
            for at, (pair, number) in enumerate(pairs):
                self.assertIs(is_mu_table(order, dict(pairs[:at] + pairs[at + 1:])), False)
                self.assertIs(is_mu_table(order, {**dict(pairs), pair: number + 1}), False)

    def test_all_selections(self):
        for order, told in many_orders(30):
            for size in range(5):
                for ranks in itertools.product(range(6), repeat=size):
                    self.assertEqual(answer(selected, order, list(ranks)), selected_answer(told, ranks))

    def test_struck_things(self):
        source = random.Random(46)
        for order, told in many_orders(60):
            for _ in range(12):
                texts = order.names[1:-1] if source.random() < 0.8 else order.names + ("q", "B")
                struck = [source.choice(texts) for _ in range(source.randint(0, 6)) if texts]
                self.assertEqual(answer(mu_without, order, struck), mu_without_answer(told, struck))
                self.assertEqual(answer(mu_by_struck, order, struck), mu_by_struck_answer(told, struck))
                self.assertEqual(answer(mu_without, order, struck), answer(mu_by_struck, order, struck))


class Mirrors(unittest.TestCase):
    def test_sums(self):
        for word_sum in many_sums(47):
            if word_sum.letters == "ab":
                terms = tuple(sorted((mirror_of(word), number) for word, number in word_sum))
                self.assertEqual(shown(mirrored(word_sum)), ("sum", "ab", word_sum.weight, terms))
                self.assertEqual(unmirrored_word(word_sum), unmirrored_value(told_sum(word_sum)))
                both = word_sum + mirrored(word_sum)
                self.assertIsNone(unmirrored_value(told_sum(both)))
                self.assertIsNone(unmirrored_word(both))

    def test_orders(self):
        for order, told in many_orders(60):
            if order.height > 0:
                self.assertEqual(unmirrored_ranks(order), unmirrored_ranks_value(told))
            self.assertEqual(unmirrored_stretch(order), first_stretch_value(told, unmirrored_value))


class Words(unittest.TestCase):
    def test_words_and_spreads(self):
        for weight in range(10):
            self.assertEqual(list(cd_words(weight)), words_of("cd", weight))
        for word_sum in many_sums(48):
            if word_sum.letters == "cd":
                self.assertEqual(shown(spread(word_sum)), sum_answer(spread_of(told_sum(word_sum))))

    def test_all_short_texts(self):
        firsts = {}
        for weight in range(7):
            for word in words_of("cd", weight):
                self.assertEqual(first_word(word), min(spread_of(("cd", weight, {word: 1}))[2]))
                firsts[first_word(word)] = word
        for size in range(7):
            for text in map("".join, itertools.product("abcd", repeat=size)):
                self.assertEqual(word_of_first(text), firsts.get(text))
                self.assertIs(text in firsts, is_first(text))


if __name__ == "__main__":
    unittest.main()

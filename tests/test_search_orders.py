"""The program and the second telling in plain_orders.py agree on many words, sums, orders, lists and rows."""

import itertools
import random
import unittest

from evenodds.bruhat import is_at_most, rearrangement_stretch, rearrangements, swaps
from evenodds.crossing import border, closure_below, crossing, crossing_ends, is_closed
from evenodds.faces import corners_of, cross, cube, faces_of, polygon, simplex
from evenodds.span import (
    alpha_of_cd,
    basis_order,
    basis_sum,
    combination,
    heap_alpha,
    hidden_sum,
    is_hidden,
    line_order,
    pair_order,
    rebuilt,
    triangle_order,
)
from evenodds.toric import (
    cut_row,
    long_of_sum,
    long_parts,
    long_row,
    minus_row,
    short_of_sum,
    short_row,
    short_turn,
    times_rows,
    unmirrored_item,
)
from plain_counts import Told, all_rank_sets
from plain_orders import (
    alpha_of,
    at_most_answer,
    basis_answer,
    basis_of,
    border_answer,
    closure_answer,
    combination_of,
    cross_answer,
    crossing_answer,
    crossing_ends_answer,
    cube_answer,
    cut_of,
    faces_answer,
    heap_alpha_answer,
    is_closed_value,
    is_hidden_value,
    is_rearranged,
    letter_answer,
    long_of,
    long_of_sum_value,
    minus_of,
    parts_of,
    polygon_answer,
    rebuilt_of,
    short_of,
    simplex_answer,
    swap_number,
    times_of,
    turn_of,
    words_between_answer,
)
from plain_sums import sum_answer, weight_of, words_of
from samples import answer, crooked, diamond, full, line, one, random_orders, shown, some_sums, triangle, two, wide
from told_samples import many_orders, many_sums, told_sum


class Spans(unittest.TestCase):
    def test_basis_orders(self):
        self.assertEqual(shown(pair_order()), basis_answer(""))
        self.assertEqual(shown(line_order()), letter_answer("c"))
        self.assertEqual(shown(triangle_order()), letter_answer("d"))
        for word in [word for weight in range(8) for word in words_of("cd", weight)]:
            self.assertEqual(answer(basis_order, word), basis_answer(word))
        for word in ("ccccccccc", "dddde", "ab", "cd" * 15, "cccccccd", "ddddd", "c\n", " ", "C"):
            self.assertEqual(answer(basis_order, word), basis_answer(word))

    def test_basis_sums(self):
        for word in [word for weight in range(10) for word in words_of("cd", weight)]:
            self.assertEqual(shown(basis_sum(word)), sum_answer(basis_of(word)))

    def test_combinations(self):
        for word_sum in many_sums("cd", range(8), 201):
            pairs = combination_of(told_sum(word_sum))
            self.assertEqual(combination(word_sum), pairs)
            self.assertEqual(shown(rebuilt(word_sum.weight, pairs)), shown(word_sum))

    def test_rebuilt(self):
        source = random.Random(202)
        for weight in (0, 1, 2, 3, 4, 5, 6, 7) * 3:
            words = words_of("cd", weight)
            pairs = [(source.choice(words), source.randint(-3, 3)) for _ in range(source.randint(0, 9))]
            self.assertEqual(shown(rebuilt(weight, pairs)), sum_answer(rebuilt_of(weight, pairs)))

    def test_alphas(self):
        for word_sum in many_sums("cd", range(6), 203, 4):
            for ranks in all_rank_sets(word_sum.weight):
                self.assertEqual(alpha_of_cd(word_sum, ranks), alpha_of(told_sum(word_sum), ranks))

    def test_hidden_sums(self):
        source = random.Random(204)
        for weight in (0, 1, 2, 3, 4, 5) * 4:
            most = len(words_of("cd", weight)) - 1
            sets = source.sample(all_rank_sets(weight), source.randint(0, most))
            found = hidden_sum(weight, sets)
            self.assertIs(is_hidden_value(told_sum(found), sets), True)
            for word_sum in some_sums("cd", weight, source, 4) + [found]:
                for other in (sets, sets[:1], [(), (1,)], source.sample(all_rank_sets(weight), 1)):
                    self.assertIs(is_hidden(word_sum, other), is_hidden_value(told_sum(word_sum), other))

    def test_heaps(self):
        source = random.Random(205)
        words = [word for weight in range(5) for word in words_of("cd", weight)]
        for _ in range(60):
            heap = [(source.choice(words), source.randint(-2, 3)) for _ in range(source.randint(0, 4))]
            if source.random() < 0.2:
                heap.append((source.choice(["ccccccccc", "ddddd", "a", "cde"]), 1))
            if source.random() < 0.5:
                heap = [(word, times) for word, times in heap if set(word) <= set("cd") and weight_of(word) == 3]
            for ranks in [(), (1,), (2,), (1, 3), (3, 1), (5,)]:
                self.assertEqual(answer(heap_alpha, heap, ranks), heap_alpha_answer(heap, ranks))


class Faces(unittest.TestCase):
    def test_made_orders(self):
        for size in range(-2, 23):
            for function, due in ((polygon, polygon_answer), (simplex, simplex_answer), (cube, cube_answer),
                                  (cross, cross_answer)):
                self.assertEqual(answer(function, size), due(size))

    def test_all_lists_of_facets_of_three_corners(self):
        facets = [part for many in range(4) for part in itertools.combinations(range(3), many)]
        good = 0
        for many in range(5):
            for some in itertools.combinations(facets, many):
                due = faces_answer(3, some)
                self.assertEqual(answer(faces_of, 3, some[::-1]), due)
                good += due[0] == "order"
        self.assertGreater(good, 20)

    def test_other_lists_of_facets(self):
        source = random.Random(206)
        labels = set()
        for _ in range(600):
            count = source.choice([-1, 0, 1, 3, 4, 5, 6, 9, 10])
            facets = [tuple(sorted(source.sample(range(max(count, 1)), source.randint(0, min(3, max(count, 1))))))
                      for _ in range(source.choice([0, 1, 2, 3, 5, 8]))]
            if source.random() < 0.8:
                facets = list(dict.fromkeys(facets))
            if source.random() < 0.1:
                facets.append(source.choice([(1, 0), (0, 0), (count,), (-1,), ()]))
            due = faces_answer(count, facets)
            labels.add(due[1] if due[0] == "error" else "order")
            self.assertEqual(answer(faces_of, count, facets), due, (count, facets))
        self.assertEqual(labels, {"order", "InvalidSize", "InvalidFacet", "WrongRank"})

    def test_names_of_faces(self):
        names = {"f" + "-".join(map(str, part)): part for many in range(10)
                 for part in itertools.combinations(range(9), many)}
        for name, corners in names.items():
            self.assertEqual(corners_of(name), corners)
        for size in range(5):
            for text in itertools.product("f018-9", repeat=size):
                name = "".join(text)
                if name not in names:
                    self.assertEqual(answer(corners_of, name), ("error", "InvalidName", (name,)))


class Rearrangements(unittest.TestCase):
    texts = [""] + ["".join(word) for size in range(1, 5) for word in itertools.permutations("12345"[:size])]
    texts += ["11", "13", "2", "12 ", "123\n", "1234a", "12344", "54321", "12345", "21345", "123456", "0", "24351"]

    def test_texts(self):
        for text in self.texts + ["".join(text) for text in itertools.product("0123", repeat=3)]:
            due = ("value", swap_number(text)) if is_rearranged(text) else ("error", "InvalidWord", (text,))
            self.assertEqual(answer(swaps, text), due)

    def test_pairs(self):
        for low, high in itertools.product(self.texts, repeat=2):
            self.assertEqual(answer(is_at_most, low, high), at_most_answer(low, high))

    def test_all_stretches_of_three_and_some_others(self):
        source = random.Random(207)
        small = [text for text in self.texts if len(text) <= 3]
        pairs = list(itertools.product(small, repeat=2))
        pairs += [(source.choice(self.texts), source.choice(self.texts)) for _ in range(60)]
        words = ["".join(word) for word in itertools.permutations("12345")]
        pairs += [sorted(source.sample(words, 2)) for _ in range(30)]
        for low, high in pairs:
            self.assertEqual(answer(rearrangement_stretch, low, high), words_between_answer(low, high), (low, high))
        for size in range(1, 5):
            digits = "1234"[:size]
            self.assertEqual(shown(rearrangements(size)), words_between_answer(digits, digits[::-1]))


def some_lists(told, source, count):
    """Lists of names, many of them closed, with the empty list and the list of all."""
    found = [[], list(told.names), list(told.names[:-1]), [told.names[0]], [told.names[-1]], ["q"]]
    for _ in range(count):
        some = source.sample(told.names, source.randint(1, len(told.names)))
        if source.random() < 0.8:
            some = [low for low in told.names if any(told.at_most(low, high) for high in some[:2])] + some[:2]
        source.shuffle(some)
        found.append(some + ["q"] * (source.random() < 0.1))
    return found


class Crossings(unittest.TestCase):
    def test_orders(self):
        source = random.Random(208)
        orders = [two(), diamond(), triangle(), crooked(), full(2, 2, 2), full(1, 2, 1), line(6)]
        orders += random_orders(source, 25) + [one(), wide(40), full(6, 8), full(9, 9)]
        labels = set()
        for order in orders:
            told = Told(order.names, order.covers)
            for closed in some_lists(told, source, 8):
                due = crossing_answer(told, closed)
                labels.add(due[1] if due[0] == "error" else "order")
                self.assertEqual(answer(crossing, order, closed), due)
                self.assertEqual(answer(crossing_ends, order, closed), crossing_ends_answer(told, closed))
                self.assertEqual(answer(border, order, closed), border_answer(told, closed))
                self.assertIs(is_closed(order, closed), is_closed_value(told, closed))
                self.assertEqual(answer(closure_below, order, closed), closure_answer(told, closed))
        self.assertEqual(labels, {"order", "UnknownName", "NotClosed", "BadBorder", "TooMany"})


class Rows(unittest.TestCase):
    def test_rows_of_numbers(self):
        source = random.Random(209)
        rows = [[source.randint(-3, 3) for _ in range(size)] for size in range(10) for _ in range(4)]
        for first in rows:
            due = [(at, x, y) for at, (x, y) in enumerate(zip(first, reversed(first))) if x != y]
            self.assertEqual(unmirrored_item(first), (due + [None])[0])
            due = ("value", tuple(cut_of(first))) if first else ("error", "WrongCount", (1, 0))
            self.assertEqual(answer(cut_row, first), due)
            for second in rows:
                due = ("value", tuple(times_of(first, second))) if first and second else ("error", "WrongCount", (1, 0))
                self.assertEqual(answer(times_rows, first, second), due)
        for exponent in range(-2, 13):
            due = ("error", "InvalidSize", (exponent,))
            if 0 <= exponent <= 9:
                due = ("value", tuple(minus_of(exponent)))
            self.assertEqual(answer(minus_row, exponent), due)

    def test_orders(self):
        for order, told in many_orders(60):
            self.assertEqual(short_row(order), tuple(short_of(told)))
            self.assertEqual(short_turn(order), tuple(turn_of(told)))
            if told.height == 0:
                for function in (long_row, long_parts):
                    self.assertEqual(answer(function, order), ("error", "TooLow", (0,)))
                continue
            self.assertEqual(long_row(order), tuple(long_of(told)))
            due = tuple((top, tuple(part + [0] * (told.height - len(part)))) for top, part in parts_of(told))
            self.assertEqual(long_parts(order), due)

    def test_sums(self):
        for word_sum in many_sums("ab", range(6), 210) + many_sums("cd", range(7), 211):
            due = long_of_sum_value(told_sum(word_sum))
            self.assertEqual(long_of_sum(word_sum), tuple(due))
            self.assertEqual(short_of_sum(word_sum), tuple(cut_of(due)))


if __name__ == "__main__":
    unittest.main()

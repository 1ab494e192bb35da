"""The program and the second telling in plain_rows.py agree on many labellings, lists of rows, papers and scripts."""

import itertools
import random
import unittest

from evenodds.evencheck import is_even
from evenodds.labels import (
    fall_counts,
    falling_chains,
    falls,
    find_labels,
    full_chains,
    is_single,
    is_unsingle_paper,
    label_row,
    product_labels,
    rising_chains,
    risen_chain,
    turned_labels,
    unsingle_stretch,
)
from evenodds.papers import full_paper, is_full_paper, is_verdict, verdict
from evenodds.products import product, turned
from evenodds.signrows import (
    differing,
    face_order,
    is_arrangement,
    is_lot_matching,
    joined_rows,
    line_rows,
    lot_sum,
    put_on,
    row_count,
    row_counts,
    turned_row,
    unclosed,
    undoubled_term,
    zero_lot,
    zero_lots,
    zero_order,
)
from plain import first_listed
from plain_counts import Told, all_rank_sets, stretch_pairs
from plain_rows import (
    face_answer,
    fall_counts_answer,
    falls_of,
    find_answer,
    full_chains_answer,
    full_paper_answer,
    joined_answer,
    label_row_answer,
    labelling_errors,
    line_rows_answer,
    lot_matching_answer,
    lot_of,
    lot_sum_answer,
    lots_of,
    monotone_answer,
    places_apart,
    put_signs,
    risen_answer,
    row_count_answer,
    row_counts_answer,
    row_errors,
    text_errors,
    turn_signs,
    unclosed_answer,
    undoubled_value,
    unsingle_answer,
    unsingle_papers,
    verdict_of,
    zero_answer,
)
from samples import answer, crooked, diamond, full, line, one, random_orders, shown, triangle, two, wide
from told_samples import many_orders, many_sums, told_sum


def error_of(due):
    return ("error",) + first_listed(due)


def some_labels(order, source):
    """Labellings of the order with small labels, good and faulty ones."""
    good = {pair: source.randint(-2, 2) for pair in order.covers}
    found = [good, {pair: at for at, pair in enumerate(order.covers)}, {pair: 0 for pair in order.covers}, {}]
    found.append({**good, ("q", order.least): 1})
    if order.covers:
        keys = list(good)
        source.shuffle(keys)
        found.append({key: good[key] for key in keys[1:]})
        found.append({(key if key != keys[0] else key[::-1]): 1 for key in order.covers})
        found.append({(key if key != keys[0] else (key[0], "q")): 1 for key in keys})
    return found


def small_orders(count):
    source = random.Random(301)
    orders = [one(), two(), diamond(), triangle(), crooked(), full(2, 2, 2), line(5), full(1, 2, 1), wide(6)]
    orders += random_orders(source, count) + [wide(17), full(5, 5, 5)]
    return [(order, Told(order.names, order.covers)) for order in orders]


class Labels(unittest.TestCase):
    def test_full_chains(self):
        for order, told in small_orders(25):
            for low, high in itertools.product(order.names[:6] + order.names[-2:] + ("q",), repeat=2):
                self.assertEqual(answer(full_chains, order, low, high), full_chains_answer(told, low, high))

    def test_rows(self):
        source = random.Random(302)
        for order, told in small_orders(25):
            for labels in some_labels(order, source):
                lists = [[], [order.least], ["q"], list(order.names), [order.least, order.least]]
                for low, high in stretch_pairs(told, 0)[-12:]:
                    lists += [list(chain) for chain in full_chains(order, low, high)[:2]]
                for things in lists:
                    due = label_row_answer(told, labels, things)
                    self.assertEqual(answer(label_row, order, labels, things), due)

    def test_rising_and_falling_chains(self):
        source = random.Random(303)
        for order, told in small_orders(25):
            for labels in some_labels(order, source):
                pairs = list(stretch_pairs(told, 0))[-12:] + [(order.greatest, order.least), ("q", order.least)]
                for low, high in pairs:
                    due = monotone_answer(told, labels, low, high, True)
                    self.assertEqual(answer(rising_chains, order, labels, low, high), due)
                    due = monotone_answer(told, labels, low, high, False)
                    self.assertEqual(answer(falling_chains, order, labels, low, high), due)

    def test_falls(self):
        for size in range(6):
            for row in itertools.product((-1, 0, 1), repeat=size):
                self.assertEqual(falls(row), falls_of(row))
                self.assertEqual(falls(list(row)), falls_of(row))

    def test_single_labellings(self):
        source = random.Random(304)
        kinds = set()
        for order, told in small_orders(40):
            for labels in some_labels(order, source):
                due = unsingle_answer(told, labels)
                kinds.add(due[1] if due[0] == "error" else due[1] is None)
                self.assertEqual(answer(unsingle_stretch, order, labels), due)
                single = due if due[0] == "error" else ("value", due[1] is None)
                self.assertEqual(answer(is_single, order, labels), single)
                if due[0] == "error":
                    self.assertEqual(answer(is_unsingle_paper, order, labels, None), due)
                    continue
                papers = unsingle_papers(told, labels)
                for paper in papers:
                    self.assertIs(is_unsingle_paper(order, labels, paper), True)
                    for bent in (paper[:2] + (paper[2] + ((1,),),), paper[:2] + (list(paper[2]),), paper[1::-1]):
                        self.assertIs(is_unsingle_paper(order, labels, bent), False)
        self.assertEqual(kinds, {True, False, "WrongCount", "MissingCover", "TooMany"})

    def test_counts_and_risen_chains(self):
        source = random.Random(305)
        for order, told in small_orders(30):
            for labels in some_labels(order, source):
                self.assertEqual(answer(fall_counts, order, labels), fall_counts_answer(told, labels))
                lists = [source.sample(order.names, min(order.size, 2)) for _ in range(3)]
                lists += [sorted(some, key=order.names.index) for some in lists]
                lists += [[], ["q"], [order.least], [order.greatest], order.names[1:2], order.names[1:-1]]
                for things in lists:
                    due = risen_answer(told, labels, things)
                    self.assertEqual(answer(risen_chain, order, labels, things), due)

    def test_found_labels(self):
        found = 0
        for order, told in small_orders(25):
            for most in range(-1, 11):
                due = find_answer(told, most)
                found += due[0] == "table"
                self.assertEqual(answer(find_labels, order, most=most), due)
        self.assertGreater(found, 20)

    def test_made_labels(self):
        source = random.Random(306)
        orders = [pair for pair in small_orders(6) if pair[0].size <= 6]
        for (left, left_told), (right, right_told) in itertools.product(orders, repeat=2):
            if left.size * right.size > 40 or left.height + right.height > 9:
                continue
            for first, second in itertools.product(some_labels(left, source), some_labels(right, source)):
                due = labelling_errors(left_told, first) + labelling_errors(right_told, second)
                if due:
                    self.assertEqual(answer(product_labels, left, first, right, second), error_of(due))
                    continue
                found = product_labels(left, first, right, second)
                self.assertEqual(tuple(found), product(left, right).covers)
                for (low, high), label in found.items():
                    (i, j), (k, m) = (tuple(map(int, name[1:].split("-"))) for name in (low, high))
                    due = 2 * first[(left.names[i], left.names[k])] if j == m else None
                    due = 2 * second[(right.names[j], right.names[m])] + 1 if i == k else due
                    self.assertEqual(label, due)
        for order, told in small_orders(20):
            for labels in some_labels(order, source):
                due = labelling_errors(told, labels)
                if not due:
                    table = tuple((pair, -labels[pair[::-1]]) for pair in turned(order).covers)
                    self.assertEqual(answer(turned_labels, order, labels), ("table", table))
                else:
                    self.assertEqual(answer(turned_labels, order, labels), error_of(due))


def all_rows(size):
    return ["".join(row) for row in itertools.product("-0+", repeat=size)]


def some_row_lists():
    """Good and bad lists of rows of small length."""
    source = random.Random(307)
    lists = [[], [""], ["", ""], ["0"], ["-0+"] * 2, all_rows(3), all_rows(2)[::-1], list(all_rows(4)[:40]),
             all_rows(4)[:41], all_rows(4), ["0", "00"], ["0", "x"], ["0000000"], ["0" * 6], [" "], ["0\n"]]
    lists += [list(line_rows(count)) for count in range(1, 7)]
    for _ in range(300):
        size = source.choice((1, 2, 2, 3, 3, 4))
        rows = source.sample(all_rows(size), source.randint(1, min(9, 3 ** size)))
        if source.random() < 0.7:
            rows += [row for row in map(turn_signs, rows) if row not in rows] + ["0" * size] * ("0" * size not in rows)
        for _ in range(source.choice((0, 0, 40))):
            pairs = [put_signs(x, y) for x, y in itertools.permutations(rows, 2) if put_signs(x, y) not in rows]
            if pairs and len(rows) < 30:
                rows.append(pairs[0])
        rows = list(dict.fromkeys(rows))
        source.shuffle(rows)
        lists.append(rows)
    return lists


class SignRows(unittest.TestCase):
    def test_texts(self):
        texts = ["", "-", "0", "+", "00", "-+", "+-0", "x", "0x", "-0+\n", "0000000", "000000", "m", "-0+-0+", "-0-0-0"]
        for text in texts:
            due = text_errors(text)
            if due:
                self.assertEqual(answer(zero_lot, text), error_of(due))
                self.assertEqual(answer(turned_row, text), error_of(due))
            else:
                self.assertEqual(zero_lot(text), lot_of(text))
                self.assertEqual(turned_row(text), turn_signs(text))
        for first, second in itertools.product(texts + all_rows(3), repeat=2):
            due = text_errors(first, second)
            for function, told in ((put_on, put_signs), (differing, places_apart)):
                if due:
                    self.assertEqual(answer(function, first, second), error_of(due))
                else:
                    self.assertEqual(function(first, second), told(first, second))

    def test_lists(self):
        faults = set()
        for rows in some_row_lists():
            due = unclosed_answer(rows)
            faults.add(due[1] if due[0] == "error" or due[1] is None else due[1][0])
            self.assertEqual(answer(unclosed, rows), due)
            self.assertEqual(answer(is_arrangement, rows), due if due[0] == "error" else ("value", due[1] is None))
            if due[0] == "error":
                self.assertEqual(answer(zero_lots, rows), error_of(row_errors(rows)))
            else:
                self.assertEqual(zero_lots(rows), lots_of(rows))
            if len(rows) < 28:
                self.assertEqual(answer(face_order, rows), face_answer(rows))
                self.assertEqual(answer(zero_order, rows), zero_answer(rows))
        self.assertEqual(faults, {None, "zero", "turned", "put", "struck", "InvalidWord", "WrongCount", "TooMany"})

    def test_counts_and_sums(self):
        orders = many_orders(25)
        orders += [(order, Told(order.names, order.covers)) for order in map(zero_order, [
            line_rows(4), line_rows(1), all_rows(3), [""], joined_rows(line_rows(3), all_rows(1))])]
        for order, told in orders:
            for low, high in itertools.product(order.names[:5] + order.names[-2:] + ("q",), repeat=2):
                self.assertEqual(answer(row_count, order, low, high), row_count_answer(told, low, high))
            self.assertEqual(shown(row_counts(order)), row_counts_answer(told))
            self.assertEqual(shown(lot_sum(order)), lot_sum_answer(told))

    def test_undoubled_terms(self):
        for word_sum in many_sums("cd", range(9), 308):
            for told in (word_sum, word_sum * 2, word_sum * -2, word_sum * 4, word_sum * 8):
                self.assertEqual(undoubled_term(told), undoubled_value(told_sum(told)))

    def test_matchings(self):
        lists = [rows for rows in some_row_lists() if len(rows) < 8][:30] + [["0-", "-0"], ["0-"], ["-0"], ["-00"]]
        places = [[], [(0, 0)], [(0, 0), (1, 1)], [(1, 0), (0, 1)], [(0, 0), (0, 0)], [(0, 1), (1, 1)], [(0, 2)],
                  [(2, 0), (0, 1), (1, 2)], [(0, 0), (1, 1), (2, 2)], [(0, 0), (1, 1), (2, 3)], [(-1, 0), (0, 1)]]
        for rows, other in itertools.product(lists, repeat=2):
            for pairs in places:
                due = lot_matching_answer(rows, other, pairs)
                self.assertEqual(answer(is_lot_matching, rows, other, pairs), due, (rows, other, pairs))

    def test_lines_and_joined_rows(self):
        for count in range(-2, 9):
            self.assertEqual(answer(line_rows, count), line_rows_answer(count))
        lists = some_row_lists()[:60]
        for first, second in itertools.product(lists, repeat=2):
            self.assertEqual(answer(joined_rows, first, second), joined_answer(first, second))


class Papers(unittest.TestCase):
    def test_verdicts(self):
        orders = many_orders(40)
        papers = [verdict_of(told) for _, told in orders]
        for (order, told), paper in zip(orders, papers):
            self.assertEqual(verdict(order), paper)
            uneven = [told.names and (low, high) for low, high in stretch_pairs(told, 1)]
            for other in papers:
                due = other == paper
                if other[0] == "uneven" and other[1:3] in uneven:
                    ranks = [told.ranks[name] % 2 for name in told.between(*other[1:3])]
                    due = other[3:] == (ranks.count(0), ranks.count(1))
                self.assertIs(is_verdict(order, other), due)

    def test_full_papers(self):
        orders = many_orders(40)
        papers = [due[1] for due in (full_paper_answer(told) for _, told in orders) if due[0] == "value"]
        for order, told in orders:
            due = full_paper_answer(told)
            self.assertEqual(answer(full_paper, order), due)
            for paper in papers:
                if order.size > 16:
                    self.assertEqual(answer(is_full_paper, order, paper), ("error", "TooMany", ("things", 16)))
                else:
                    self.assertIs(is_full_paper(order, paper), is_even(order) and paper == due[1])


class Sets(unittest.TestCase):
    def test_risen_chains_of_single_labellings(self):
        found = 0
        for order, told in small_orders(25):
            labels = find_labels(order, most=2) if 2 ** len(order.covers) <= 256 and order.size <= 16 else None
            for ranks in all_rank_sets(order.weight) if labels else []:
                chains = [chain for chain in full_chains(order, order.least, order.greatest)
                          if set(falls_of([labels[pair] for pair in zip(chain, chain[1:])])) <= set(ranks)]
                levels = [order.at_rank(rank) for rank in ranks]
                things = [some for some in itertools.product(*levels)
                          if all(pair in told.below for pair in zip(some, some[1:]))]
                risen = [risen_chain(order, labels, some) for some in things]
                self.assertEqual(sorted(risen), sorted(chains))
                found += 1
        self.assertGreater(found, 20)


if __name__ == "__main__":
    unittest.main()

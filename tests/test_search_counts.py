"""The program and the second telling in plain_counts.py agree on many orders and arguments."""

import itertools
import random
import unittest

from evenodds.counts import (
    Counts,
    alpha,
    alphas,
    alphas_of_betas,
    beta,
    betas_of_alphas,
    chain_ranks,
    chains,
    is_chain,
)
from evenodds.evencheck import is_even, is_uneven_paper, parity_counts, uneven_stretch, uneven_stretches
from evenodds.stretches import inner_things, stretch, stretch_order, stretches
from plain_counts import (
    Told,
    all_rank_sets,
    alpha_answer,
    alphas_table,
    beta_answer,
    chain_answer,
    chain_ranks_answer,
    chains_answer,
    counts_answer,
    inner_answer,
    parity_answer,
    stretch_answer,
    stretch_order_answer,
    stretch_pairs,
    uneven_papers,
    within,
)
from samples import answer, crooked, diamond, full, line, one, random_orders, triangle, two


def many_orders():
    """Each order with its second telling."""
    orders = [one(), two(), line(3), line(6), diamond(), crooked(), triangle(), full(1, 2, 2), full(2, 2, 2)]
    orders += random_orders(random.Random(31), 80)
    return [(order, Told(order.names, order.covers)) for order in orders]


class Stretches(unittest.TestCase):
    calls = (
        (stretch, stretch_answer), (inner_things, inner_answer), (stretch_order, stretch_order_answer),
        (parity_counts, parity_answer),
    )

    def test_all_ends(self):
        for order, told in many_orders():
            for low, high in itertools.product(order.names + ("q", "B"), repeat=2):
                for function, due in self.calls:
                    self.assertEqual(answer(function, order, low, high), due(told, low, high), (low, high))

    def test_all_lengths(self):
        for order, told in many_orders():
            self.assertEqual(stretches(order), stretch_pairs(told, 1))
            for least in range(-2, order.height + 3):
                self.assertEqual(stretches(order, least_length=least), stretch_pairs(told, least))


class Evenness(unittest.TestCase):
    def test_papers(self):
        even = uneven = 0
        for order, told in many_orders():
            papers = uneven_papers(told)
            self.assertEqual(uneven_stretches(order), papers)
            self.assertEqual(uneven_stretch(order), papers[0] if papers else None)
            self.assertIs(is_even(order), not papers)
            even, uneven = even + (not papers), uneven + (len(papers) > 0)
        self.assertGreater(min(even, uneven), 10)

    def test_all_tuples_of_four(self):
        for order, told in many_orders()[::4]:
            papers = uneven_papers(told)
            ends = order.names + ("q", None, 1)
            for paper in itertools.product(ends, ends, (0, 1, 2, 3, 4, None), (0, 1, 2, 3, 4, "1")):
                self.assertIs(is_uneven_paper(order, paper), paper in papers, paper)


class Chains(unittest.TestCase):
    def test_all_short_lists(self):
        for order, told in many_orders()[:30]:
            names = order.names[:2] + order.names[-3:] + ("q",)
            for count in range(5):
                for things in itertools.product(dict.fromkeys(names), repeat=count):
                    for with_ends in (False, True):
                        due = chain_answer(told, things, with_ends)
                        self.assertIs(is_chain(order, things, with_ends=with_ends), due, things)
                    self.assertEqual(answer(chain_ranks, order, list(things)), chain_ranks_answer(told, things))

    def test_all_ranks(self):
        wrong = [(0,), (9,), (-1, 1), (2, 1), (1, 1), (1, 2, 3, 4, 5, 6, 7, 8)]
        for order, told in many_orders():
            for ranks in all_rank_sets(order.weight) + wrong:
                for with_ends in (False, True):
                    due = chains_answer(told, ranks, with_ends)
                    self.assertEqual(answer(chains, order, ranks, with_ends=with_ends), due)
                self.assertEqual(answer(alpha, order, list(ranks)), alpha_answer(told, ranks))
                self.assertEqual(answer(beta, order, list(ranks)), beta_answer(told, ranks))


class Tables(unittest.TestCase):
    def test_tables_of_orders(self):
        for order, told in many_orders():
            if order.height == 0:
                continue
            table = alphas_table(told)
            self.assertEqual(answer(alphas, order), counts_answer(order.weight, table))
            self.assertEqual(answer(betas_of_alphas, alphas(order)), counts_answer(order.weight, within(table, -1)))

    def test_any_tables(self):
        source = random.Random(32)
        for weight in (0, 1, 2, 3, 4, 5, 6) * 3:
            chosen = [ranks for ranks in all_rank_sets(weight) if source.random() < 0.7]
            source.shuffle(chosen)
            table = {ranks: source.randint(-20, 20) for ranks in chosen}
            counts = Counts(weight, table)
            filled = {ranks: table.get(ranks, 0) for ranks in all_rank_sets(weight)}
            self.assertEqual(("counts", weight, counts.pairs()), counts_answer(weight, table))
            self.assertEqual(answer(betas_of_alphas, counts), counts_answer(weight, within(filled, -1)))
            self.assertEqual(answer(alphas_of_betas, counts), counts_answer(weight, within(filled, 1)))


if __name__ == "__main__":
    unittest.main()

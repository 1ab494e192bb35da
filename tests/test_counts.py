"""The module evenodds.counts: points [23] to [26]."""

import random
import tracemalloc
import unittest

from evenodds import errors
from evenodds.counts import (
    Counts,
    alpha,
    alphas,
    alphas_of_betas,
    beta,
    betas_of_alphas,
    chain_ranks,
    chains,
    is_chain,
)
from evenodds.orders import Order
from evenodds.ranksets import rank_sets
from samples import (
    BIG,
    WRONG_RANKS,
    WRONG_WEIGHTS,
    Asks,
    crooked,
    diamond,
    full,
    line,
    one,
    triangle,
    two,
    wide,
    widest,
)


def bounded(extra):
    """An order of weight 5 with 2000 chains of all ranks, or with 2001 if `extra` is True."""
    order = full(5, 5, 5, 4, 4)
    more = ["n", "e1", "e2", "e3", "e4", "e5", "o"] if extra else []
    return Order(order.names + tuple(more[1:-1]), order.covers + tuple(zip(more, more[1:])))


class Chains(Asks, unittest.TestCase):
    """Point [23]."""

    def test_chains_of_middle_things(self):
        order = crooked()
        for things in ((), ("b",), ("x",), ("b", "k"), ("b", "j"), ("a", "k"), ("c", "x")):
            self.assertIs(is_chain(order, things), True)
            self.assertIs(is_chain(order, list(things)), True)
            self.assertIs(is_chain(order=order, things=things, with_ends=False), True)
        for things in (("c", "k"), ("k", "b"), ("b", "a"), ("b", "b"), ("b", "k", "k"), ("b", "b", "k"),
                       ("b", "k", "j"), ("b", "k", "a"), ("a", "x", "k"), ("j", "x")):
            self.assertIs(is_chain(order, things), False)
            self.assertIs(is_chain(order, list(things)), False)

    def test_ranks_may_be_left_out(self):
        order = line(8)
        self.assertIs(is_chain(order, ["t1", "t4", "t6"]), True)
        self.assertIs(is_chain(order, ["t1", "t6", "t4"]), False)
        self.assertIs(is_chain(order, ["t0", "t1", "t6", "t7"], with_ends=True), True)
        self.assertIs(is_chain(order, ["t0", "t6", "t1", "t7"], with_ends=True), False)

    def test_ends_in_the_list(self):
        order = crooked()
        for things in (("bot",), ("top",), ("bot", "top"), ("bot", "b"), ("k", "top"), ("bot", "b", "k", "top")):
            self.assertIs(is_chain(order, things), False)
        for things in (("bot", "top"), ("bot", "b", "top"), ("bot", "k", "top"), ("bot", "b", "k", "top")):
            self.assertIs(is_chain(order, things, with_ends=True), True)
            self.assertIs(is_chain(order, list(things), with_ends=True), True)
        for things in ((), ("bot",), ("top",), ("b",), ("b", "k"), ("bot", "b"), ("k", "top"), ("top", "bot"),
                       ("bot", "bot"), ("top", "top"), ("bot", "bot", "top"), ("bot", "top", "top"),
                       ("bot", "c", "k", "top"), ("bot", "k", "b", "top"), ("top", "k", "b", "bot"),
                       ("bot", "b", "k", "bot"), ("top", "b", "k", "top"), ("bot", "b", "b", "top"),
                       ("bot", "b", "bot", "top"), ("bot", "top", "b", "top"), ("b", "bot", "top", "k")):
            self.assertIs(is_chain(order, things, with_ends=True), False)
            self.assertIs(is_chain(order, list(things), with_ends=True), False)

    def test_small_orders(self):
        for things in ((), []):
            for order in (one(), two(), crooked()):
                self.assertIs(is_chain(order, things), True)
                self.assertIs(is_chain(order, things, with_ends=True), False)
        for things in (["x"], ["x", "x"], ["x", "x", "x"], ["q"], ["q", "q"], ["x", "q"]):
            self.assertIs(is_chain(one(), things), False)
            self.assertIs(is_chain(one(), things, with_ends=True), False)
        self.assertIs(is_chain(two(), ["a", "b"]), False)
        self.assertIs(is_chain(two(), ["a", "b"], with_ends=True), True)
        self.assertIs(is_chain(two(), ["b", "a"], with_ends=True), False)

    def test_unknown_names(self):
        order = crooked()
        for things in (["q"], ["q", "r"], ["b", "q"], ["q", "k"], ["b", "q", "k"], [""], ["B\n"], ["b", "k", "q"]):
            self.assertIs(is_chain(order, things), False)
            self.assertIs(is_chain(order, things, with_ends=True), False)
            self.assertIs(is_chain(order, ["bot"] + things + ["top"], with_ends=True), False)
        for things in (["q", "k", "top"], ["bot", "k", "q"], ["q", "r"], ["q", "top"], ["bot", "q"]):
            self.assertIs(is_chain(order, things, with_ends=True), False)

    def test_long_lists(self):
        for order in (one(), crooked()):
            for name in (order.least, "b", "q"):
                self.assertIs(is_chain(order, [name] * 1000), False)
                self.assertIs(is_chain(order, ["bot"] + [name] * 998 + ["top"], with_ends=True), False)

    def test_ranks(self):
        order = crooked()
        self.assertEqual(chain_ranks(order, []), ())
        self.assertEqual(chain_ranks(order, ()), ())
        self.assertEqual(chain_ranks(order=order, things=["b", "k"]), (1, 2))
        self.assertEqual(chain_ranks(order, ("bot", "top")), (0, 3))
        self.assertEqual(chain_ranks(order, ("bot", "b", "k", "top")), (0, 1, 2, 3))
        self.assertEqual(chain_ranks(line(9), ["t1", "t4", "t6", "t8"]), (1, 4, 6, 8))
        for name in order:
            self.assertEqual(chain_ranks(order, [name]), (order.rank(name),))
        self.assertEqual(chain_ranks(one(), ["x"]), (0,))

    def test_errors_of_ranks(self):
        order = crooked()
        for things, values in (
            (["c", "k"], ("c", "k")), (["k", "b"], ("k", "b")), (["b", "b"], ("b", "b")),
            (["top", "bot"], ("top", "bot")), (["bot", "b", "a", "j"], ("b", "a")),
            (["bot", "c", "k", "j", "top"], ("c", "k")), (["b", "k", "j", "b"], ("k", "j")),
            (["bot", "bot"], ("bot", "bot")), (["bot", "b", "k", "k"], ("k", "k")),
        ):
            self.assert_error(errors.NotBelow, values, chain_ranks, order, things)
            self.assert_error(errors.NotBelow, values, chain_ranks, order, tuple(things))
        for things, name in ((["q"], "q"), (["b", "q"], "q"), (["q", "b"], "q"), (["q", "r"], "q"), (["q", "q"], "q"),
                             (["k", "b", "r", "q"], "r"), (["b", "b", "b", "k", ""], "")):
            self.assert_error(errors.UnknownName, (name,), chain_ranks, order, things)
        self.assert_error(errors.NotBelow, ("x", "x"), chain_ranks, one(), ["x", "x"])
        self.assert_error(errors.UnknownName, ("q",), chain_ranks, one(), ["x", "x", "q"])


class ListsOfChains(Asks, unittest.TestCase):
    """Point [24]."""

    def test_chains_by_place(self):
        order = crooked()
        self.assertEqual(chains(order, [1]), (("b",), ("a",), ("c",)))
        self.assertEqual(chains(order, (2,)), (("k",), ("j",), ("x",)))
        due = (("b", "k"), ("b", "j"), ("a", "k"), ("a", "x"), ("c", "x"))
        self.assertEqual(chains(order, (1, 2)), due)
        self.assertEqual(chains(order=order, ranks=[1, 2], with_ends=False), due)
        self.assertEqual(chains(order, [1, 2], with_ends=True), tuple(("bot", *things, "top") for things in due))
        self.assertEqual(chains(order, [2], with_ends=True), tuple(("bot", name, "top") for name in "kjx"))

    def test_the_given_sequence_decides(self):
        covers = crooked().covers
        order = Order(["x", "j", "a", "k", "c", "b", "bot", "top"], covers)
        due = (("a", "x"), ("a", "k"), ("c", "x"), ("b", "j"), ("b", "k"))
        self.assertEqual(chains(order, (1, 2)), due)

    def test_the_empty_rank_set(self):
        for order in (two(), diamond(), crooked(), widest()):
            for ranks in ((), []):
                self.assertEqual(chains(order, ranks), ((),))
                self.assertEqual(chains(order, ranks, with_ends=True), ((order.least, order.greatest),))
                self.assertEqual(alpha(order, ranks), 1)

    def test_ranks_that_are_left_out(self):
        self.assertEqual(chains(line(8), [1, 4, 6]), (("t1", "t4", "t6"),))
        self.assertEqual(chains(line(8), [6], with_ends=True), (("t0", "t6", "t7"),))
        self.assertEqual(chains(full(1, 2, 1, 2), [2, 4]), tuple((f"m2-{j}", f"m4-{k}") for j in "01" for k in "01"))
        # From rank 1 to rank 3 some pairs have two ways between them; each chain is told once.
        self.assertEqual(chains(full(1, 5, 1), [1, 3]), (("m1-0", "m3-0"),))
        self.assertEqual(alpha(full(1, 5, 1), [1, 3]), 1)

    def test_all_chains_are_chains(self):
        for order in (triangle(), crooked(), full(2, 3, 1, 2)):
            for ranks in rank_sets(order.weight):
                found = chains(order, ranks)
                self.assertEqual(len(found), alpha(order, ranks))
                for things in found:
                    self.assertIs(is_chain(order, things), True)
                    self.assertEqual(chain_ranks(order, things), ranks)
                places = [[order.place(name) for name in things] for things in found]
                self.assertEqual(places, sorted(places))
                self.assertEqual(len(set(found)), len(found))
                for things in chains(order, ranks, with_ends=True):
                    self.assertIs(is_chain(order, things, with_ends=True), True)

    def test_alpha(self):
        self.assertEqual([alpha(triangle(), ranks) for ranks in ((), (1,), (2,), (1, 2))], [1, 3, 3, 6])
        self.assertEqual([alpha(crooked(), ranks) for ranks in ((), (1,), (2,), (1, 2))], [1, 3, 3, 5])
        self.assertEqual(alpha(order=wide(40), ranks=[1]), 38)
        self.assertEqual(alpha(two(), ()), 1)

    def test_the_bound(self):
        order = bounded(False)
        self.assertEqual(alpha(order, [1, 2, 3, 4, 5]), 2000)
        found = chains(order, [1, 2, 3, 4, 5])
        self.assertEqual(len(found), 2000)
        self.assertEqual(len(set(found)), 2000)
        self.assertEqual(found[0], ("m1-0", "m2-0", "m3-0", "m4-0", "m5-0"))
        self.assertEqual(found[-1], ("m1-4", "m2-4", "m3-4", "m4-3", "m5-3"))
        self.assertEqual(len(chains(order, [1, 2, 3, 4, 5], with_ends=True)), 2000)

    def test_beyond_the_bound(self):
        order = bounded(True)
        self.assertEqual(alpha(order, (1, 2, 3, 4, 5)), 2001)
        for named in ({}, {"with_ends": True}, {"with_ends": False}):
            self.assert_error(errors.TooMany, ("chains", 2000), chains, order, (1, 2, 3, 4, 5), **named)
            self.assert_error(errors.TooMany, ("chains", 2000), chains, widest(), (1, 2, 3, 4, 5, 6, 7, 8), **named)
        # Only the chains of these ranks count.
        self.assertEqual(len(chains(order, (1, 2, 3, 4))), 501)
        self.assertEqual(len(chains(order, (5,))), 5)

    def test_alpha_beyond_the_bound(self):
        self.assertEqual(alpha(widest(), [1, 2, 3, 4, 5, 6, 7, 8]), 5 ** 6 * 4 ** 2)
        self.assertEqual(alpha(widest(), [1, 2, 3, 4, 5]), 3125)
        self.assertEqual(alphas(widest())[(1, 2, 3, 4, 5, 6, 7, 8)], 250000)

    def test_chains_beyond_the_bound_are_counted_without_a_list(self):
        order = widest()
        tracemalloc.start()
        self.assertEqual(alpha(order, (1, 2, 3, 4, 5, 6, 7, 8)), 250000)
        self.assertRaises(errors.TooMany, chains, order, (1, 2, 3, 4, 5, 6, 7, 8))
        _, most = tracemalloc.get_traced_memory()
        tracemalloc.stop()
        # A list of these chains takes more than twenty million bytes.
        self.assertLess(most, 2 * 10 ** 6)


class ChainErrors(Asks, unittest.TestCase):
    def assert_chain_error(self, expected, values, order, ranks):
        for function in (chains, alpha, beta):
            self.assert_error(expected, values, function, order, ranks)
            self.assert_error(expected, values, function, order=order, ranks=list(ranks))
        self.assert_error(expected, values, chains, order, ranks, with_ends=True)

    def test_too_low(self):
        for ranks in ((), (1,), (0,), (2, 1), (-1,), (10,)):
            self.assert_chain_error(errors.TooLow, (0,), one(), ranks)
        self.assert_error(errors.TooLow, (0,), alphas, one())

    def test_invalid_ranks(self):
        for weight, ranks in WRONG_RANKS:
            if weight < 9:
                self.assert_chain_error(errors.InvalidRanks, (ranks,), line(weight + 2), ranks)
        for ranks in ((0,), (3,), (2, 1), (1, 1), (0, 1, 2), (1, 2, 3), (1, 3)):
            self.assert_chain_error(errors.InvalidRanks, (ranks,), crooked(), ranks)

    def test_invalid_ranks_before_too_many(self):
        for ranks in ((1, 2, 3, 4, 5, 6), (1, 2, 3, 4, 5, 5), (0, 1, 2, 3, 4, 5)):
            self.assert_error(errors.InvalidRanks, (ranks,), chains, bounded(True), ranks)


class Numbers(Asks, unittest.TestCase):
    """Point [25]."""

    def test_missing_keys_have_the_number_0(self):
        counts = Counts(2, {(2,): 5, (1, 2): -7})
        self.assertEqual(counts.weight, 2)
        self.assertEqual([counts[ranks] for ranks in ((), (1,), (2,), (1, 2))], [0, 0, 5, -7])
        self.assertEqual(tuple(counts), ((), (1,), (2,), (1, 2)))
        self.assertEqual(counts.pairs(), (((), 0), ((1,), 0), ((2,), 5), ((1, 2), -7)))

    def test_the_sequence_of_the_dict_does_not_matter(self):
        counts = Counts(table={(1, 2): 4, (2,): 3, (): 1, (1,): 2}, weight=2)
        self.assertEqual(counts.pairs(), (((), 1), ((1,), 2), ((2,), 3), ((1, 2), 4)))
        self.assertEqual(counts, Counts(2, {(): 1, (1,): 2, (2,): 3, (1, 2): 4}))

    def test_each_weight(self):
        for weight in range(10):
            counts = Counts(weight, {})
            self.assertEqual(counts.weight, weight)
            self.assertEqual(tuple(counts), rank_sets(weight))
            self.assertEqual(tuple(counts), rank_sets(weight))
            self.assertEqual(counts.pairs(), tuple((ranks, 0) for ranks in rank_sets(weight)))
            numbers = {ranks: number - 3 for number, ranks in enumerate(rank_sets(weight))}
            counts = Counts(weight, numbers)
            self.assertEqual(dict(counts.pairs()), numbers)
            self.assertEqual({ranks: counts[ranks] for ranks in counts}, numbers)

    def test_great_numbers(self):
        counts = Counts(1, {(): BIG, (1,): -BIG})
        self.assertEqual((counts + counts).pairs(), (((), 2 * BIG), ((1,), -2 * BIG)))
        self.assertEqual((counts - counts).pairs(), (((), 0), ((1,), 0)))
        self.assertEqual(betas_of_alphas(counts).pairs(), (((), BIG), ((1,), -2 * BIG)))
        self.assertEqual(alphas_of_betas(counts).pairs(), (((), BIG), ((1,), 0)))

    def test_plus_and_minus(self):
        first = Counts(2, {(): 1, (1,): 2, (2,): -3})
        second = Counts(2, {(): 10, (2,): 3, (1, 2): 4})
        self.assertEqual((first + second).pairs(), (((), 11), ((1,), 2), ((2,), 0), ((1, 2), 4)))
        self.assertEqual((first - second).pairs(), (((), -9), ((1,), 2), ((2,), -6), ((1, 2), -4)))
        self.assertEqual((second - first).pairs(), (((), 9), ((1,), -2), ((2,), 6), ((1, 2), 4)))
        for counts in (first + second, first - second):
            self.assertIs(counts.__class__, Counts)
            self.assertEqual(counts.weight, 2)
        self.assertEqual(first.pairs(), (((), 1), ((1,), 2), ((2,), -3), ((1, 2), 0)))
        self.assertEqual(second.pairs(), (((), 10), ((1,), 0), ((2,), 3), ((1, 2), 4)))

    def test_plus_and_minus_undo_each_other(self):
        source = random.Random(5)
        for weight in range(10):
            first = Counts(weight, {ranks: source.randint(-99, 99) for ranks in rank_sets(weight)})
            second = Counts(weight, {ranks: source.randint(-99, 99) for ranks in rank_sets(weight)})
            total, rest = first + second, first - second
            for ranks in rank_sets(weight):
                self.assertEqual(total[ranks], first[ranks] + second[ranks])
                self.assertEqual(rest[ranks], first[ranks] - second[ranks])
            self.assertEqual(total - second, first)
            self.assertEqual(rest + second, first)
            self.assertEqual(first - first, Counts(weight, {}))

    def test_equality(self):
        counts = Counts(2, {(1,): 3, (2,): 0})
        for other in (Counts(2, {(1,): 3}), Counts(2, {(2,): 0, (1,): 3, (): 0, (1, 2): 0}), counts):
            self.assertIs(counts == other, True)
            self.assertIs(counts != other, False)
        others = (
            Counts(2, {}), Counts(2, {(1,): 2}), Counts(2, {(1,): -3}), Counts(2, {(2,): 3}), Counts(3, {(1,): 3}),
            Counts(1, {(1,): 3}), Counts(2, {(1,): 3, (): 1}), Counts(2, {(1,): 3, (1, 2): 1}),
            {(1,): 3}, {(): 0, (1,): 3, (2,): 0, (1, 2): 0}, counts.pairs(), tuple(counts), None, 2, "", (), [],
            two(), False, True,
        )
        for other in others:
            self.assertIs(counts == other, False)
            self.assertIs(other == counts, False)
            self.assertIs(counts != other, True)
        self.assertIs(Counts(0, {}) == Counts(1, {}), False)
        self.assertIs(Counts(0, {}) == Counts(0, {(): 0}), True)
        self.assertIs(two() == Counts(0, {}), False)

    def test_a_later_change_of_the_dict_has_no_effect(self):
        table = {(1,): 3, (2,): 4}
        counts = Counts(2, table)
        table[(1,)] = 9
        table[()] = 9
        table[(1, 2)] = 9
        del table[(2,)]
        self.assertEqual(counts.pairs(), (((), 0), ((1,), 3), ((2,), 4), ((1, 2), 0)))
        self.assertEqual((counts[()], counts[(1,)], counts[(1, 2)]), (0, 3, 0))
        table.clear()
        self.assertEqual(counts, Counts(2, {(1,): 3, (2,): 4}))


class NumberErrors(Asks, unittest.TestCase):
    def test_invalid_weight(self):
        for weight in WRONG_WEIGHTS:
            for table in ({}, {(): 1}, {(0,): 1}, {(2, 1): 0}):
                self.assert_error(errors.InvalidWeight, (weight,), Counts, weight, table)
                self.assert_error(errors.InvalidWeight, (weight,), Counts, table=table, weight=weight)

    def test_invalid_keys(self):
        for weight, ranks in WRONG_RANKS:
            for number in (1, 0, -BIG):
                self.assert_error(errors.InvalidRanks, (ranks,), Counts, weight, {ranks: number})
                self.assert_error(errors.InvalidRanks, (ranks,), Counts, weight, {(): 3, ranks: number})

    def test_the_first_key_in_the_sequence_of_the_dict(self):
        table = {(1,): 1, (3,): 0, (2, 1): 1, (0,): 1}
        self.assert_error(errors.InvalidRanks, ((3,),), Counts, 2, table)
        self.assert_error(errors.InvalidRanks, ((2, 1),), Counts, 3, table)
        self.assert_error(errors.InvalidRanks, ((0,),), Counts, 2, dict(reversed(table.items())))

    def test_brackets(self):
        for weight, ranks in WRONG_RANKS:
            counts = Counts(weight, {})
            self.assert_error(errors.InvalidRanks, (ranks,), lambda: counts[ranks])
        for ranks in ((1, 2), (1,)):
            self.assert_error(errors.InvalidRanks, (ranks,), lambda: Counts(0, {(): 1})[ranks])

    def test_unlike_weights(self):
        for first, second in ((0, 1), (1, 0), (2, 3), (9, 8), (0, 9)):
            one_side, other_side = Counts(first, {(): 1}), Counts(second, {(): 1})
            self.assert_error(errors.UnlikeSums, ("weight",), lambda: one_side + other_side)
            self.assert_error(errors.UnlikeSums, ("weight",), lambda: one_side - other_side)
            self.assertEqual(one_side, Counts(first, {(): 1}))


class SignedCounts(unittest.TestCase):
    """Point [26]."""

    def test_known_orders(self):
        for order, counts, signed in (
            (two(), [1], [1]),
            (line(3), [1, 1], [1, 0]),
            (diamond(), [1, 2], [1, 1]),
            (wide(40), [1, 38], [1, 37]),
            (triangle(), [1, 3, 3, 6], [1, 2, 2, 1]),
            (crooked(), [1, 3, 3, 5], [1, 2, 2, 0]),
            (full(2, 3), [1, 2, 3, 6], [1, 1, 2, 2]),
            (full(2, 3, 4), [1, 2, 3, 4, 6, 8, 12, 24], [1, 1, 2, 3, 2, 3, 6, 6]),
        ):
            found = alphas(order)
            self.assertEqual(found.weight, order.weight)
            self.assertEqual([number for _, number in found.pairs()], counts)
            self.assertEqual([number for _, number in betas_of_alphas(found).pairs()], signed)
            self.assertEqual([alpha(order, ranks) for ranks in rank_sets(order.weight)], counts)
            self.assertEqual([beta(order, ranks) for ranks in rank_sets(order.weight)], signed)
            self.assertEqual([beta(order, list(ranks)) for ranks in rank_sets(order.weight)], signed)
        self.assertEqual(alphas(order=two()), Counts(0, {(): 1}))
        self.assertEqual(beta(order=triangle(), ranks=[1, 2]), 1)

    def test_negative_signed_counts(self):
        # Three lines beside each other: a choice at rank 1 leaves none at rank 2.
        order = Order(["n", "a", "b", "c", "d", "e", "f", "o"], [
            ("n", "a"), ("n", "b"), ("n", "c"), ("a", "d"), ("b", "e"), ("c", "f"), ("d", "o"), ("e", "o"), ("f", "o")])
        self.assertEqual([number for _, number in alphas(order).pairs()], [1, 3, 3, 3])
        self.assertEqual([number for _, number in betas_of_alphas(alphas(order)).pairs()], [1, 2, 2, -2])
        self.assertEqual(beta(order, (1, 2)), -2)

    def test_the_greatest_order(self):
        order = widest()
        sizes = (5, 5, 5, 5, 5, 5, 4, 4)
        found, signed = alphas(order), betas_of_alphas(alphas(order))
        for ranks in rank_sets(8):
            due, due_signed = 1, 1
            for rank in ranks:
                due, due_signed = due * sizes[rank - 1], due_signed * (sizes[rank - 1] - 1)
            self.assertEqual((found[ranks], signed[ranks]), (due, due_signed))
        self.assertEqual(beta(order, (1, 7, 8)), 36)

    def test_single_numbers(self):
        # The number 1 at one set comes back at all sets around it, with the sign of what they have more.
        for table, plain, signed in (
            ({(): 1}, [1] * 8, [1, -1, -1, -1, 1, 1, 1, -1]),
            ({(1,): 1}, [0, 1, 0, 0, 1, 1, 0, 1], [0, 1, 0, 0, -1, -1, 0, 1]),
            ({(2,): 1}, [0, 0, 1, 0, 1, 0, 1, 1], [0, 0, 1, 0, -1, 0, -1, 1]),
            ({(1, 3): 1}, [0, 0, 0, 0, 0, 1, 0, 1], [0, 0, 0, 0, 0, 1, 0, -1]),
            ({(1, 2, 3): 1}, [0] * 7 + [1], [0] * 7 + [1]),
        ):
            self.assertEqual([number for _, number in alphas_of_betas(Counts(3, table)).pairs()], plain)
            self.assertEqual([number for _, number in betas_of_alphas(Counts(3, table)).pairs()], signed)

    def test_each_undoes_the_other(self):
        source = random.Random(6)
        for weight in range(10):
            for bound in (1, 50, BIG):
                counts = Counts(weight, {ranks: source.randint(-bound, bound) for ranks in rank_sets(weight)})
                told = counts.pairs()
                self.assertEqual(betas_of_alphas(alphas_of_betas(counts)), counts)
                self.assertEqual(alphas_of_betas(betas_of_alphas(counts=counts)), counts)
                self.assertEqual(counts.pairs(), told)
                self.assertEqual(betas_of_alphas(counts).weight, weight)
                self.assertIs(alphas_of_betas(counts=counts).__class__, Counts)

    def test_the_definition(self):
        source = random.Random(8)
        for weight in range(6):
            counts = Counts(weight, {ranks: source.randint(-9, 9) for ranks in rank_sets(weight)})
            for ranks in rank_sets(weight):
                within = [part for part in rank_sets(weight) if set(part) <= set(ranks)]
                plain = sum(counts[part] for part in within)
                signed = sum(counts[part] * (-1) ** (len(ranks) - len(part)) for part in within)
                self.assertEqual(alphas_of_betas(counts)[ranks], plain)
                self.assertEqual(betas_of_alphas(counts)[ranks], signed)


if __name__ == "__main__":
    unittest.main()

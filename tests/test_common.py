"""The common rules, points [1] to [5], for all modules."""

import copy
import unittest

from evenodds import errors
from evenodds.absum import ab_sum, betas_of_sum, stretch_sum, sum_of_betas
from evenodds.cdread import cd_sum, is_readable, is_reading, read_cd, reading, unread_stretch
from evenodds.cdwords import cd_count, cd_words, first_word, spread, word_of_first
from evenodds.counts import (
    Counts,
    alpha,
    alphas,
    alphas_of_betas,
    beta,
    betas_of_alphas,
    chain_ranks,
    chains,
    is_chain,
)
from evenodds.crossing import crossing, crossing_ends
from evenodds.edits import apply_edit, apply_edits, inverse_edit
from evenodds.evencheck import is_even, is_uneven_paper, parity_counts, uneven_stretch, uneven_stretches
from evenodds.flagsback import (
    balance_sides,
    broken_balance,
    few_numbers,
    is_balanced,
    is_sparse,
    sparse_sets,
    told_back,
)
from evenodds.letterrules import lifted, prism_sum, pyramid_sum, splits, splits_by_tops
from evenodds.mirror import is_mirrored, mirrored, unmirrored_ranks, unmirrored_stretch, unmirrored_word
from evenodds.moebius import (
    is_mu_table,
    mu,
    mu_by_struck,
    mu_table,
    mu_without,
    selected,
    signed_total,
    unlike_mu,
)
from evenodds.orders import Order
from evenodds.papers import verdict
from evenodds.ordertext import format_edit, format_order, parse_edit, parse_order
from evenodds.products import laid, prism, product, pyramid, turned
from evenodds.ranksets import complement, is_rank_set, rank_sets, ranks_of, subsets, word_of
from evenodds.recur import ab_sum_by_tops, cd_by_tops, doubled_cd, minus_power, square_power, top_parts
from evenodds.relations import is_alike, is_matching, order_from_relations, relations, renamed
from evenodds.script import run
from evenodds.signrows import lot_sum, row_counts
from evenodds.stretches import inner_things, stretch, stretch_order, stretches
from evenodds.toric import long_parts, short_row, short_turn
from evenodds.words import WordSum, format_sum, parse_sum, power, single, word_weight, zero_sum
from calls import AB_SUM, CALLS, CD_SUM
from samples import Asks, answer, crooked, diamond, full, line, one, shown, two, wide


def everything(order):
    """All that the interface tells of an order."""
    told = [order.names, order.covers, order.height, order.weight, order.least, order.greatest, order.size]
    told += [order.at_rank(rank) for rank in range(-2, 12)] + [tuple(order), relations(order)]
    told += [format_order(order), stretches(order), stretches(order, least_length=0), uneven_stretch(order)]
    told += [uneven_stretches(order), is_even(order), tuple(mu_table(order).items()), unlike_mu(order)]
    told += [mu_by_struck(order, order.names[1:-1:2]), short_row(order), short_turn(order), verdict(order)]
    told += [row_counts(order).pairs(), lot_sum(order).terms, script_answers(order)]
    if order.height > 0:
        told += [alphas(order).pairs(), betas_of_alphas(alphas(order)).pairs(), ab_sum(order).terms]
        told += [splits_by_tops(order), top_parts(order), turned(order).covers]
        told += [long_parts(order), crossing(order, order.names[:1]).covers, crossing_ends(order, order.names[:-1])]
        told += [unmirrored_ranks(order)] + [selected(order, ranks).covers for ranks in rank_sets(order.weight)]
        told += [chains(order, ranks, with_ends=True) for ranks in rank_sets(order.weight)]
    for name in order:
        told += [order.rank(name), order.place(name), order.lowers(name), order.uppers(name), name in order]
        told += [(order.is_below(name, other), order.is_at_most(name, other)) for other in order]
    return told


def script_answers(order):
    """What a script tells of an order and of others made from it."""
    lines = [f"ask {word}" for word in ("size", "height", "even", "verdict", "letters", "sum", "few", "order")]
    return run("\n".join(lines + ["make turned"] + lines + ["make prism", "ask order"]), start=order)


def emptied(value):
    """Take everything out of the lists and dicts in a value, at any depth."""
    if isinstance(value, (list, tuple)):
        for item in value:
            emptied(item)
    if isinstance(value, (list, dict)):
        value.clear()


def read_sum(text, weight):
    return parse_sum(text, "ab", weight=weight)


class Arguments(unittest.TestCase):
    """No argument is modified, and no list that was passed is kept."""

    calls = (
        (Order, ["z", "y", "x", "w"], [["w", "x"], ("w", "y"), ["x", "z"], ("y", "z")]),
        (Order, ["a", "a"], [["q", "r"]]),
        (Order, ["a", "b"], [["a", "b"], ["b", "a"]]),
        (order_from_relations, ["c", "b", "a"], [["a", "b"], ["b", "c"], ["a", "c"], ["a", "b"]]),
        (order_from_relations, ["c", "b", "a"], [["a", "b"], ["b", "a"]]),
        (renamed, diamond(), ["d", "c", "b", "a"]),
        (renamed, diamond(), ["d", "c"]),
        (is_matching, diamond(), diamond(), [["z", "z"], ["x", "y"], ["y", "x"], ["w", "w"]]),
        (apply_edit, diamond(), ["add", "v", ["w"], ["z"]]),
        (apply_edit, diamond(), ["add", "v", ["w", "w"], ["v"]]),
        (apply_edit, diamond(), ["add", ["v", ["w"]], [[]]]),
        (inverse_edit, diamond(), ["drop", "x"]),
        (inverse_edit, diamond(), ["add", "v", ["w"], ["z"]]),
        (apply_edits, diamond(), [["add", "v", ["w"], ["z"]], ["drop", "x"]]),
        (apply_edits, diamond(), [["add", "v", ["w"], ["z"]], ["drop", "q"]]),
        (format_order, diamond()),
        (format_edit, ["add", "v", ["w"], ["z", "y"]]),
        (format_edit, ["add", "v", ["w", "B"], []]),
        (format_edit, ["add", ["v", ["w"]], [[]]]),
        (parse_order, "b:\na: b"),
        (parse_edit, "add v w z,y"),
        (stretch, crooked(), "bot", "k"),
        (inner_things, crooked(), "bot", "k"),
        (stretch_order, crooked(), "bot", "k"),
        (stretches, crooked()),
        (parity_counts, crooked(), "bot", "k"),
        (uneven_stretch, crooked()),
        (uneven_stretches, crooked()),
        (is_even, crooked()),
        (is_uneven_paper, crooked(), ("bot", "j", 2, 1)),
        (is_uneven_paper, crooked(), ["bot", "j", 2, 1]),
        (is_rank_set, [1, 3], 4),
        (rank_sets, 3),
        (complement, [1, 3], 4),
        (complement, [3, 1], 4),
        (subsets, [1, 3]),
        (subsets, [1, 1]),
        (word_of, [1, 3], 4),
        (word_of, [5], 4),
        (ranks_of, "baba"),
        (is_chain, crooked(), ["b", "k"]),
        (chain_ranks, crooked(), ["b", "k"]),
        (chain_ranks, crooked(), ["b", "k", "j"]),
        (chains, crooked(), [1, 2]),
        (chains, crooked(), [2, 1]),
        (Counts, 2, {(2,): 3, (): 1}),
        (Counts, 2, {(2,): 3, (3,): 1}),
        (alpha, crooked(), [1, 2]),
        (alphas, crooked()),
        (beta, crooked(), [1, 2]),
        (betas_of_alphas, Counts(2, {(2,): 3, (): 1})),
        (alphas_of_betas, Counts(2, {(2,): 3, (): 1})),
        (WordSum, "ab", 2, [["ba", 1], ("ab", 2), ["ba", 3]]),
        (WordSum, "ab", 2, [["ba", 1], ["b", 2]]),
        (zero_sum, "cd", 2),
        (single, "cd", "cdc"),
        (word_weight, "cd", "cdc"),
        (power, AB_SUM, 3),
        (power, AB_SUM, -1),
        (format_sum, AB_SUM),
        (read_sum, "-ab + 3ba", 2),
        (read_sum, "3ba - ab", 2),
        (ab_sum, crooked()),
        (sum_of_betas, Counts(2, {(2,): 3, (): 1})),
        (betas_of_sum, AB_SUM),
        (stretch_sum, crooked(), "bot", "k"),
        (mu, crooked(), "bot", "k"),
        (mu_table, crooked()),
        (is_mu_table, two(), {("a", "b"): -1, ("b", "b"): 1, ("a", "a"): 1}),
        (is_mu_table, two(), {("a", "b"): -1, ("b", "b"): 1, ("b", "a"): 0}),
        (unlike_mu, crooked()),
        (signed_total, crooked(), "bot", "k"),
        (selected, crooked(), [2]),
        (selected, crooked(), [2, 1]),
        (mu_without, crooked(), ["b", "k", "b"]),
        (mu_without, crooked(), ["b", "top"]),
        (mu_by_struck, crooked(), ["b", "k", "b"]),
        (mirrored, AB_SUM),
        (is_mirrored, AB_SUM),
        (unmirrored_word, AB_SUM),
        (unmirrored_ranks, crooked()),
        (unmirrored_stretch, crooked()),
        (cd_words, 4),
        (cd_count, 4),
        (spread, CD_SUM),
        (first_word, "cdc"),
        (word_of_first, "aaba"),
        (reading, AB_SUM),
        (is_reading, AB_SUM, CD_SUM, AB_SUM),
        (is_readable, AB_SUM),
        (read_cd, AB_SUM),
        (read_cd, spread(CD_SUM)),
        (cd_sum, diamond()),
        (cd_sum, crooked()),
        (unread_stretch, crooked()),
        (minus_power, 3),
        (square_power, 3),
        (square_power, 5),
        (top_parts, crooked()),
        (ab_sum_by_tops, crooked()),
        (doubled_cd, diamond()),
        (doubled_cd, crooked()),
        (cd_by_tops, diamond()),
        (is_sparse, [2, 4]),
        (is_sparse, [4, 2]),
        (sparse_sets, 4),
        (few_numbers, Counts(2, {(2,): 3, (): 1})),
        (told_back, 2, [1, 3]),
        (told_back, 2, [1, 3, 3]),
        (balance_sides, Counts(2, {(2,): 3, (): 1}), [2], 0),
        (balance_sides, Counts(2, {(2,): 3, (): 1}), [2, 1], 0),
        (broken_balance, Counts(2, {(2,): 3, (): 1})),
        (is_balanced, Counts(2, {(2,): 3, (): 1})),
        (turned, crooked()),
        (laid, crooked(), diamond()),
        (laid, crooked(), one()),
        (product, crooked(), two()),
        (product, crooked(), crooked()),
        (pyramid, crooked()),
        (prism, crooked()),
        (splits, AB_SUM),
        (splits_by_tops, crooked()),
        (lifted, AB_SUM, AB_SUM, AB_SUM),
        (lifted, AB_SUM, AB_SUM, CD_SUM),
        (pyramid_sum, AB_SUM),
        (prism_sum, CD_SUM),
    ) + CALLS

    def test_no_argument_is_modified(self):
        for function, *given in self.calls:
            before = copy.deepcopy(given)
            told = [everything(item) for item in given if isinstance(item, Order)]
            try:
                function(*given)
            except errors.EvenOddsError:
                pass
            self.assertEqual(given, before)
            self.assertEqual([everything(item) for item in given if isinstance(item, Order)], told)

    def test_equal_calls_give_equal_values(self):
        for function, *given in self.calls:
            first = answer(function, *given)
            self.assertEqual(first, answer(function, *copy.deepcopy(given)))
            self.assertEqual(first, answer(function, *given))

    def assert_not_kept(self, function, *given):
        order = function(*given)
        told = everything(order)
        for item in given:
            if isinstance(item, list):
                for inner in item:
                    if isinstance(inner, list):
                        inner.clear()
                item.clear()
        self.assertEqual(everything(order), told)

    def test_a_later_change_of_any_argument_has_no_effect(self):
        for function, *given in self.calls:
            given = copy.deepcopy(given)
            try:
                found = function(*given)
            except errors.EvenOddsError as error:
                told = copy.deepcopy(vars(error))
                emptied(given)
                self.assertEqual(vars(error), told)
                continue
            told = copy.deepcopy(shown(found))
            emptied(given)
            self.assertEqual(shown(found), told)

    def test_a_returned_dict_is_new(self):
        for function, *given in self.calls:
            first = answer(function, *given)
            if first[0] == "table":
                function(*given).clear()
                self.assertEqual(answer(function, *given), first)

    def test_a_later_change_of_a_list_has_no_effect(self):
        self.assert_not_kept(Order, ["z", "y", "x", "w"], [["w", "x"], ["w", "y"], ["x", "z"], ["y", "z"]])
        self.assert_not_kept(order_from_relations, ["c", "b", "a"], [["a", "b"], ["b", "c"], ["a", "c"]])
        self.assert_not_kept(renamed, diamond(), ["d", "c", "b", "a"])
        self.assert_not_kept(apply_edit, diamond(), ["add", "v", ["w"], ["z"]])
        self.assert_not_kept(apply_edits, diamond(), [["add", "v", ["w"], ["z"]], ["drop", "x"]])

    def test_a_later_change_of_a_rank_set_or_a_chain_has_no_effect(self):
        for function, given, items in (
            (chains, [crooked()], [1, 2]), (chain_ranks, [crooked()], ["bot", "k"]), (subsets, [], [1, 3]),
            (told_back, [2], [1, 3]), (selected, [crooked()], [2]), (WordSum, ["ab", 2], [["ba", 1], ["ab", 2]]),
        ):
            found = function(*given, items)
            told = shown(copy.deepcopy(found))
            for item in items:
                if isinstance(item, list):
                    item.clear()
            items.clear()
            self.assertEqual(shown(found), told)

    def test_an_inverse_and_an_error_keep_no_list(self):
        edit = ["add", "v", ["w"], ["z"]]
        found = inverse_edit(diamond(), edit)
        edit.clear()
        self.assertEqual(found, ("drop", "v"))
        edit = ["add", ["v"], ["w"]]
        with self.assertRaises(errors.InvalidEdit) as caught:
            apply_edit(one(), edit)
        edit[1].append("q")
        edit.clear()
        self.assertEqual(caught.exception.edit, ("add", ("v",), ("w",)))

    def test_an_edit_leaves_the_order_as_it_was(self):
        order = diamond()
        told = everything(order)
        changed = apply_edit(order, ("drop", "x"))
        apply_edits(changed, [("add", "x", ["w"], ["z"]), ("rename", "x", "q")])
        renamed(order, ["a", "b", "c", "d"])
        self.assertEqual(everything(order), told)


class Pair(tuple):
    """A tuple of another class, which is never returned."""


class Values(unittest.TestCase):
    def assert_own_kinds(self, value):
        """The value is made of Python's own kinds, exact tuples and word sums only."""
        if isinstance(value, WordSum):
            value = (value.letters, value.weight, value.terms)
        self.assertIn(value.__class__, (int, str, tuple, bool, None.__class__))
        if isinstance(value, tuple):
            for item in value:
                self.assert_own_kinds(item)

    def test_kinds(self):
        orders = [one(), two(), diamond(), line(10), wide(40)]
        orders += [order_from_relations(["b", "a"], [["a", "b"]]), renamed(two(), ["d", "c"])]
        orders += [apply_edit(two(), ["rename", "a", "c"]), apply_edits(two(), [["drop", "a"]])]
        for order in orders:
            self.assertIs(order.__class__, Order)
            for value in everything(order):
                self.assert_own_kinds(value)
            for value in (order.height, order.weight, order.size, order.rank(order.least), order.place(order.least)):
                self.assertIs(value.__class__, int)
        for edit in (["add", "v", ["w"], ["z"]], ["drop", "x"], ["rename", "x", "q"]):
            self.assert_own_kinds(inverse_edit(diamond(), edit))

    def test_kinds_of_all_calls(self):
        for function, *given in Arguments.calls:
            self.assert_own_kinds(answer(function, *given))

    def test_kinds_of_texts_stretches_and_ranks(self):
        for order in (one(), two(), crooked(), full(1, 2, 1)):
            self.assert_own_kinds(stretches(order, least_length=-1))
            for low, high in stretches(order, least_length=0):
                for function in (stretch, inner_things, parity_counts):
                    self.assert_own_kinds(function(order, low, high))
        for text in ("add x . .", "add x a,b .", "drop x", "cover a b", "rename a b"):
            self.assert_own_kinds(parse_edit(text))
        for weight in range(5):
            self.assert_own_kinds(rank_sets(weight))
            for ranks in rank_sets(weight):
                self.assert_own_kinds((complement(list(ranks), weight), subsets(list(ranks)), word_of(ranks, weight)))
                self.assertIs(ranks.__class__, tuple)

    def test_kinds_of_chains_and_counts(self):
        for order in (two(), crooked(), full(1, 2, 1)):
            for ranks in rank_sets(order.weight):
                for with_ends in (False, True):
                    self.assert_own_kinds(chains(order, list(ranks), with_ends=with_ends))
                self.assertIs(alpha(order, ranks).__class__, int)
                self.assertIs(beta(order, ranks).__class__, int)
            for counts in (alphas(order), betas_of_alphas(alphas(order)), alphas(order) + alphas(order)):
                self.assertIs(counts.__class__, Counts)
                self.assert_own_kinds((counts.weight, counts.pairs(), tuple(counts)))
                self.assertIs(counts.weight.__class__, int)
                self.assertEqual({number.__class__ for _, number in counts.pairs()}, {int})

    def test_kinds_of_word_sums(self):
        for word_sum in (WordSum("ab", 2, [["ba", 1], ["ab", 2]]), AB_SUM + AB_SUM, AB_SUM * AB_SUM, AB_SUM * 3,
                         0 * CD_SUM, -CD_SUM, CD_SUM.reversed_words(), (CD_SUM * 2).halved(), power(AB_SUM, 0),
                         zero_sum("cd", 1), single("ab", ""), read_sum("-ab + 3ba", 2), ab_sum(crooked()),
                         stretch_sum(crooked(), "b", "top"), sum_of_betas(alphas(two())), mirrored(AB_SUM),
                         spread(CD_SUM), *reading(AB_SUM), read_cd(spread(CD_SUM)), cd_sum(diamond()), minus_power(3),
                         square_power(0), ab_sum_by_tops(crooked()), doubled_cd(two()), cd_by_tops(diamond()),
                         *[part for _, part in top_parts(crooked())], lifted(AB_SUM, AB_SUM, AB_SUM),
                         pyramid_sum(CD_SUM), prism_sum(AB_SUM)):
            self.assertIs(word_sum.__class__, WordSum)
            self.assert_own_kinds((word_sum.letters, word_sum.weight, word_sum.terms, tuple(word_sum)))
            self.assertEqual((word_sum.letters.__class__, word_sum.weight.__class__), (str, int))
            for word, number in word_sum.terms:
                self.assertEqual((word.__class__, number.__class__), (str, int))

    def test_kinds_of_pairs_and_rows(self):
        for pair in [reading(AB_SUM), *top_parts(crooked())]:
            self.assertIs(pair.__class__, tuple)
            self.assertEqual(len(pair), 2)
        self.assertEqual((top_parts(crooked()).__class__, top_parts(two())), (tuple, ()))
        counts = alphas(crooked())
        for value in (splits(AB_SUM), splits_by_tops(crooked()), sparse_sets(9), few_numbers(counts),
                      balance_sides(counts, [1], 1), broken_balance(counts), unread_stretch(crooked())):
            self.assert_own_kinds(value)
            self.assertIs(value.__class__, tuple)
        for order in (turned(crooked()), laid(two(), crooked()), product(one(), one()), pyramid(one()), prism(two())):
            self.assertIs(order.__class__, Order)
            for value in everything(order):
                self.assert_own_kinds(value)

    def test_kinds_of_tuples_of_another_class(self):
        order = Order(Pair(["b", "a"]), Pair([Pair(["a", "b"])]))
        for value in everything(order):
            self.assert_own_kinds(value)
        ranks, things = Pair([1, 2]), Pair(["b", "k"])
        for value in (complement(ranks, 3), subsets(ranks), chains(crooked(), ranks), chain_ranks(crooked(), things),
                      chains(crooked(), ranks, with_ends=True), Counts(2, {ranks: 3}).pairs(),
                      WordSum("ab", 1, Pair([Pair(["b", 2]), Pair(["a", 1])])).terms):
            self.assert_own_kinds(value)

    def test_answers_are_true_or_false(self):
        for value in (is_alike(one(), one()), is_alike(one(), two()), is_matching(one(), two(), []),
                      is_matching(one(), one(), [("x", "x")]), one() == one(), one() == two(), "x" in one(),
                      is_even(one()), is_even(crooked()), is_uneven_paper(one(), ()), is_uneven_paper(one(), None),
                      is_uneven_paper(crooked(), ("bot", "j", 2, 1)), is_rank_set((), 0), is_rank_set((), 10),
                      is_rank_set([1], 1), is_rank_set([2], 1), is_chain(one(), []), is_chain(one(), ["q"]),
                      is_chain(two(), [], with_ends=True), is_chain(two(), ["a", "b"], with_ends=True),
                      Counts(0, {}) == Counts(0, {}), Counts(0, {}) == None, Counts(0, {}) == Counts(1, {}),
                      is_mu_table(one(), {}), is_mu_table(one(), {("x", "x"): 1}), is_mirrored(AB_SUM),
                      is_mirrored(single("ab", "")), AB_SUM == AB_SUM, AB_SUM == CD_SUM, AB_SUM == None,
                      is_reading(AB_SUM, CD_SUM, AB_SUM), is_reading(CD_SUM, CD_SUM, AB_SUM), is_readable(AB_SUM),
                      is_readable(zero_sum("ab", 2)), is_sparse([1]), is_sparse([]), is_balanced(Counts(0, {})),
                      is_balanced(Counts(1, {(): 1})), "ab" in AB_SUM, "q" in AB_SUM, bool(AB_SUM),
                      bool(zero_sum("ab", 0))):
            self.assertIs(value.__class__, bool)


class EqualOrders(unittest.TestCase):
    """Equal orders cannot be told apart, however they were made."""

    def test_the_same_order_made_in_several_ways(self):
        ways = [
            diamond(),
            Order(["y", "w", "z", "x"], diamond().covers[::-1]),
            order_from_relations(["w", "z", "y", "x"], relations(diamond())),
            renamed(Order(["a", "b", "c", "d"], [("a", "b"), ("a", "c"), ("b", "d"), ("c", "d")]), "w y x z".split()),
            apply_edits(line(3), [("rename", "t0", "w"), ("rename", "t1", "y"), ("rename", "t2", "z"),
                                  ("add", "x", ["w"], ["z"])]),
            parse_order(format_order(diamond())),
            parse_order("z:\ny: z\nw: x y\nx: z"),
            stretch_order(parse_order("z: u\ny: z\nx: z\nu:\nv: w\nw: x y"), "w", "z"),
        ]
        edits = [("drop", "x"), ("rename", "y", "q"), ("add", "v", ["w"], ["z"]), ("cover", "w", "z"), ("drop", "w"),
                 ("uncover", "x", "y"), ("cover", "z", "w"), ("drop", "q"), ("add", "v", ["z"], ["x"]), ()]
        for order in ways:
            self.assertEqual(order, ways[0])
            self.assertEqual(everything(order), everything(ways[0]))
            for edit in edits:
                self.assertEqual(answer(apply_edit, order, edit), answer(apply_edit, ways[0], edit))


class ManyThings(Asks, unittest.TestCase):
    """The limits of [5] for what is passed."""

    def test_a_thousand_names_and_covers(self):
        names = [f"t{k}" for k in range(1000)]
        covers = list(zip(names, names[1:]))
        self.assert_error(errors.TooMany, ("things", 40), Order, names, covers)
        self.assert_error(errors.DuplicateName, ("t0",), Order, names[:999] + ["t0"], covers)
        self.assert_error(errors.UnknownName, ("t999",), Order, names[:999], covers)

    def test_a_thousand_pairs_of_forty_names(self):
        names = [f"t{k}" for k in range(40)]
        pairs = [(low, high) for at, low in enumerate(names) for high in names[at + 1:]]
        self.assert_error(errors.TooHigh, (39,), order_from_relations, names, (pairs * 2)[:1000])
        self.assert_error(errors.WrongRank, ("t0", "t2"), Order, names, pairs)
        self.assert_error(errors.RingFound, ("t0",), Order, names, pairs + [("t39", "t0")])

    def test_long_texts_where_any_text_may_be_passed(self):
        text = "a" * 20000
        self.assert_error(errors.InvalidName, (text,), Order, [text])
        self.assert_error(errors.UnknownName, (text,), one().rank, text)
        self.assert_error(errors.UnknownName, (text,), apply_edit, one(), ("drop", text))
        self.assertIs(text in one(), False)


if __name__ == "__main__":
    unittest.main()

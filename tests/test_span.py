"""The module evenodds.span: points [58] to [63]."""

import itertools
import random
import unittest

from evenodds import errors
from evenodds.cdread import cd_sum
from evenodds.cdwords import cd_count, cd_words
from evenodds.counts import alpha
from evenodds.evencheck import is_even
from evenodds.products import laid
from evenodds.ranksets import rank_sets
from evenodds.relations import is_matching, relations
from evenodds.span import (
    alpha_of_cd,
    basis_order,
    basis_sum,
    combination,
    heap_alpha,
    heaps,
    hidden_sum,
    is_hidden,
    line_order,
    pair_order,
    rebuilt,
    triangle_order,
)
from evenodds.words import WordSum, single, zero_sum
from samples import BIG, WRONG_RANKS, WRONG_WEIGHTS, Asks, diamond, full, some_sums, triangle, two
from told_samples import even_orders

AB_SUMS = (zero_sum("ab", 0), zero_sum("ab", 9), single("ab", ""), single("ab", "ab"), single("ab", "b" * 9))
WRONG_WORDS = ("a", "b", "ab", "C", "cdx", "c d", " ", "c\n", "\n", "cdc.", "0", "d" * 15 + "b" + "c" * 14)


def many_sums(seed, count=5):
    source = random.Random(seed)
    return [word_sum for weight in range(10) for word_sum in some_sums("cd", weight, source, count)]


class SmallOrders(Asks, unittest.TestCase):
    """Point [58]."""

    def test_names_and_covers(self):
        self.assert_same_order(pair_order(), ("least", "greatest"), (("least", "greatest"),))
        self.assert_same_order(line_order(), ("least", "v0", "v1", "greatest"), (
            ("least", "v0"), ("least", "v1"), ("v0", "greatest"), ("v1", "greatest")))
        self.assert_same_order(triangle_order(), ("least", "v0", "v1", "v2", "e0", "e1", "e2", "greatest"), (
            ("least", "v0"), ("least", "v1"), ("least", "v2"), ("v0", "e0"), ("v0", "e2"), ("v1", "e0"), ("v1", "e1"),
            ("v2", "e1"), ("v2", "e2"), ("e0", "greatest"), ("e1", "greatest"), ("e2", "greatest")))

    def test_they_are_even_and_alike_to_other_orders(self):
        for order, other in ((pair_order(), two()), (line_order(), diamond()), (triangle_order(), triangle())):
            self.assertIs(is_even(order), True)
            self.assertIs(is_matching(order, other, list(zip(order.names, other.names))), True)

    def test_edges_stand_above_their_corners(self):
        for edge, corners in (("e0", ("v0", "v1")), ("e1", ("v1", "v2")), ("e2", ("v0", "v2"))):
            self.assertEqual(triangle_order().lowers(edge), corners)
        self.assertEqual(len(relations(triangle_order())), 6 + 1 + 6 + 6)


class BasisOrders(Asks, unittest.TestCase):
    """Point [59]."""

    def test_words_of_one_letter_and_none(self):
        self.assertEqual(basis_order(""), pair_order())
        self.assertEqual(basis_order(word="c"), line_order())
        self.assertEqual(basis_order("d"), triangle_order())

    def test_longer_words_name_things_by_places(self):
        found = basis_order("cc")
        self.assert_same_order(found, ("l0", "l1", "l2", "u1", "u2", "u3"), (
            ("l0", "l1"), ("l0", "l2"), ("l1", "u1"), ("l1", "u2"), ("l2", "u1"), ("l2", "u2"), ("u1", "u3"),
            ("u2", "u3")))
        self.assertEqual(basis_order("cd").names, ("l0", "l1", "l2", "u1", "u2", "u3", "u4", "u5", "u6", "u7"))
        self.assertEqual(basis_order("dc").names,
                         ("l0", "l1", "l2", "l3", "l4", "l5", "l6", "u1", "u2", "u3"))
        self.assertEqual(basis_order("ddc").names, tuple([f"l{k}" for k in range(13)] + ["u1", "u2", "u3"]))

    def test_the_last_letter_lies_on_the_others(self):
        letters = {"c": line_order(), "d": triangle_order()}
        for weight in range(2, 8):
            for word in cd_words(weight):
                if len(word) > 1:
                    self.assertEqual(basis_order(word), laid(basis_order(word[:-1]), letters[word[-1]]))

    def test_weight_eight_and_nine(self):
        for word, size in (("c" * 8, 18), ("dddd", 26), ("cdcdcc", 22), ("d" + "c" * 6, 20)):
            order = basis_order(word)
            self.assertEqual((order.height, order.size), (9, size))
        for word, height in (("c" * 9, 10), ("ddddc", 10), ("c" * 10, 11), ("d" * 5, 11), ("c" * 30, 31),
                             ("d" * 30, 61), ("cd" * 15, 46), ("c" * 20000, 20001)):
            self.assert_error(errors.TooHigh, (height,), basis_order, word)

    def test_another_letter_goes_first(self):
        for word in WRONG_WORDS + ("c" * 30 + "a", "a" + "d" * 30, "c" * 9 + "\n"):
            self.assert_error(errors.InvalidWord, (word,), basis_order, word)

    def test_basis_orders_are_even(self):
        for weight in range(9):
            for word in cd_words(weight):
                order = basis_order(word)
                self.assertIs(is_even(order), True)
                self.assertEqual(order.weight, weight)
                self.assertEqual(cd_sum(order), basis_sum(word))

    def test_basis_sums(self):
        self.assert_sum(basis_sum(""), "cd", 0, (("", 1),))
        self.assert_sum(basis_sum(word="c"), "cd", 1, (("c", 1),))
        self.assert_sum(basis_sum("d"), "cd", 2, (("cc", 1), ("d", 1)))
        self.assert_sum(basis_sum("dc"), "cd", 3, (("ccc", 1), ("dc", 1)))
        self.assert_sum(basis_sum("cd"), "cd", 3, (("ccc", 1), ("cd", 1)))
        self.assert_sum(basis_sum("dd"), "cd", 4, (("cccc", 1), ("ccd", 1), ("dcc", 1), ("dd", 1)))

    def test_products_letter_by_letter(self):
        images = {"c": single("cd", "c"), "d": WordSum("cd", 2, [("cc", 1), ("d", 1)])}
        for weight in range(10):
            for word in cd_words(weight):
                due = single("cd", "")
                for letter in word:
                    due = due * images[letter]
                self.assertEqual(basis_sum(word), due)

    def test_sums_of_weight_nine_and_more(self):
        self.assertEqual(basis_sum("ddddc").weight, 9)
        self.assert_sum(basis_sum("c" * 9), "cd", 9, (("c" * 9, 1),))
        for word, weight in (("c" * 10, 10), ("ddddd", 10), ("d" * 30, 60), ("ddddcc", 10)):
            self.assert_error(errors.InvalidWeight, (weight,), basis_sum, word)
        for word in WRONG_WORDS + ("c" * 10 + "a", "a" + "d" * 30):
            self.assert_error(errors.InvalidWord, (word,), basis_sum, word)


class Combinations(Asks, unittest.TestCase):
    """Point [60]."""

    def test_small_sums(self):
        self.assertEqual(combination(single("cd", "")), (("", 1),))
        self.assertEqual(combination(word_sum=single("cd", "d")), (("cc", -1), ("d", 1)))
        self.assertEqual(combination(WordSum("cd", 2, [("cc", 5), ("d", 2)])), (("cc", 3), ("d", 2)))
        self.assertEqual(combination(WordSum("cd", 2, [("cc", 2), ("d", 2)])), (("d", 2),))
        self.assertEqual(combination(single("cd", "dd")), (("cccc", 1), ("ccd", -1), ("dcc", -1), ("dd", 1)))
        self.assertEqual(combination(WordSum("cd", 1, [("c", BIG)])), (("c", BIG),))

    def test_each_undoes_the_other(self):
        for word_sum in many_sums(221):
            pairs = combination(word_sum)
            self.assertEqual(rebuilt(word_sum.weight, pairs), word_sum)
            self.assertEqual([word for word, _ in pairs], sorted(word for word, _ in pairs))
            self.assertTrue(all(number != 0 for _, number in pairs))
            # The terms are good pairs, too: sorted, without repeats and zeros.
            self.assertEqual(combination(rebuilt(word_sum.weight, word_sum.terms)), word_sum.terms)
            total = zero_sum("cd", word_sum.weight)
            for word, number in pairs:
                total = total + basis_sum(word) * number
            self.assertEqual(total, word_sum)

    def test_pairs_in_any_sequence_repeated_and_with_zeros(self):
        pairs = [["d", 2], ("cc", 1), ["d", -5], ("cc", 0)]
        self.assert_sum(rebuilt(2, pairs), "cd", 2, (("cc", -2), ("d", -3)))
        self.assertEqual(combination(rebuilt(weight=2, pairs=pairs)), (("cc", 1), ("d", -3)))
        self.assertEqual(combination(rebuilt(2, [["d", 1], ["d", -1]])), ())
        self.assertEqual(combination(rebuilt(3, [["cd", 1], ["ccc", -2]])), (("ccc", -2), ("cd", 1)))

    def test_zero_sums_and_the_empty_list(self):
        for weight in range(10):
            self.assertEqual(combination(zero_sum("cd", weight)), ())
            self.assertEqual(rebuilt(weight, []), zero_sum("cd", weight))
            self.assertEqual(rebuilt(weight, ()), zero_sum("cd", weight))

    def test_wrong_words(self):
        for weight, pairs, word in (
            (2, [("c", 1)], "c"), (2, [("cc", 1), ("cd", 0)], "cd"), (2, [("dc", 0), ("ab", 1)], "dc"),
            (2, [("d", 1), ("ab", 0), ("c", 1)], "ab"), (0, [("c", 0)], "c"), (0, [("", 1), ("\n", 1)], "\n"),
            (9, [("ddddd", 1)], "ddddd"), (9, [("d" * 4, 1), ("x", 1)], "dddd"), (3, [["ccC", 0]], "ccC"),
        ):
            self.assert_error(errors.InvalidWord, (word,), rebuilt, weight, pairs)

    def test_weights(self):
        for weight in WRONG_WEIGHTS:
            for pairs in ([], [("c", 1)], [("ab", 1)]):
                self.assert_error(errors.InvalidWeight, (weight,), rebuilt, weight, pairs)
        self.assert_sum(rebuilt(0, [("", 3), ("", 4)]), "cd", 0, (("", 7),))
        self.assertEqual(len(rebuilt(9, [(word, 1) for word in cd_words(9)]).terms), 55)

    def test_letters_ab(self):
        for word_sum in AB_SUMS:
            self.assert_error(errors.InvalidLetters, ("ab",), combination, word_sum)


class AlphaOfSums(Asks, unittest.TestCase):
    """Point [61]."""

    def test_even_orders(self):
        for order in even_orders() + [full(2, 2, 2, 2, 2, 2, 2, 2), basis_order("dddd")]:
            word_sum = cd_sum(order)
            for ranks in rank_sets(order.weight)[:40]:
                self.assertEqual(alpha_of_cd(word_sum, ranks), alpha(order, ranks))
                self.assertEqual(alpha_of_cd(word_sum=word_sum, ranks=list(ranks)), alpha(order, ranks))

    def test_small_sums(self):
        word_sum = WordSum("cd", 2, [("cc", 2), ("d", -3)])
        for ranks, number in (((), 2), ((1,), 2 * 2 - 3), ((2,), 2 * 2 - 3), ((1, 2), 2 * 4 - 3 * 2)):
            self.assertEqual(alpha_of_cd(word_sum, ranks), number)
        self.assertEqual(alpha_of_cd(WordSum("cd", 0, [("", -BIG)]), []), -BIG)
        for weight in range(10):
            self.assertEqual(alpha_of_cd(zero_sum("cd", weight), ()), 0)

    def test_wrong_ranks_and_letters(self):
        for weight, ranks in WRONG_RANKS:
            self.assert_error(errors.InvalidRanks, (ranks,), alpha_of_cd, zero_sum("cd", weight), ranks)
            self.assert_error(errors.InvalidRanks, (ranks,), alpha_of_cd, zero_sum("cd", weight), list(ranks))
            self.assert_error(errors.InvalidLetters, ("ab",), alpha_of_cd, zero_sum("ab", weight), ranks)
        for word_sum in AB_SUMS:
            self.assert_error(errors.InvalidLetters, ("ab",), alpha_of_cd, word_sum, ())


class HiddenSums(Asks, unittest.TestCase):
    """Point [62]."""

    def assert_hidden(self, word_sum, weight, sets):
        self.assertIs(word_sum.__class__, WordSum)
        self.assertEqual((word_sum.letters, word_sum.weight), ("cd", weight))
        self.assertTrue(word_sum.terms)
        for word, number in word_sum.terms:
            self.assertLess(abs(number), 10 ** 60)
        for ranks in sets:
            self.assertEqual(alpha_of_cd(word_sum, ranks), 0)
        self.assertIs(is_hidden(word_sum, sets), True)

    def test_no_sets(self):
        for weight in range(7):
            self.assert_hidden(hidden_sum(weight, []), weight, [])
            self.assertEqual(hidden_sum(weight=weight, rank_sets=()), hidden_sum(weight, []))

    def test_as_many_as_are_allowed(self):
        source = random.Random(222)
        for weight in range(2, 7):
            most = cd_count(weight) - 1
            lists = [rank_sets(weight)[:most], rank_sets(weight)[-most:], rank_sets(weight)[1:most + 1]]
            lists += [source.sample(rank_sets(weight), many) for many in range(1, most + 1)]
            lists += [source.sample(rank_sets(weight), most) for _ in range(6)]
            for sets in lists:
                self.assert_hidden(hidden_sum(weight, sets), weight, sets)

    def test_all_choices_for_small_weights(self):
        for weight in (2, 3):
            for sets in itertools.combinations(rank_sets(weight), cd_count(weight) - 1):
                self.assert_hidden(hidden_sum(weight, sets), weight, sets)

    def test_repeated_sets_lists_and_tuples(self):
        sets = [[1], (1,), [1]] * 300
        self.assert_hidden(hidden_sum(2, sets), 2, sets)
        sets = [(1, 3), [2], [1, 3], (), [2]]
        self.assert_error(errors.TooMany, ("rank sets", 2), hidden_sum, 3, sets)
        self.assert_hidden(hidden_sum(3, sets[:3]), 3, sets[:3])
        self.assert_hidden(hidden_sum(4, sets), 4, sets)
        self.assertEqual(hidden_sum(4, sets), hidden_sum(4, [list(ranks) for ranks in sets]))
        self.assertEqual(hidden_sum(4, sets), hidden_sum(4, tuple(sets)))

    def test_one_set_more(self):
        for weight in range(7):
            most = cd_count(weight) - 1
            sets = list(rank_sets(weight)[:most + 1])
            for told in (sets, sets[::-1], [list(ranks) for ranks in sets], sets * 20):
                self.assert_error(errors.TooMany, ("rank sets", most), hidden_sum, weight, told)
        self.assert_error(errors.TooMany, ("rank sets", 0), hidden_sum, 0, [()])
        self.assert_error(errors.TooMany, ("rank sets", 0), hidden_sum, 1, [[1], [1]])
        self.assert_error(errors.TooMany, ("rank sets", 12), hidden_sum, 6, rank_sets(6))

    def test_wrong_sets_go_before_too_many(self):
        self.assert_error(errors.InvalidRanks, ((2, 1),), hidden_sum, 2, [(), [1], [2], [2, 1], [3]])
        self.assert_error(errors.InvalidRanks, ((7,),), hidden_sum, 6, list(rank_sets(6)) + [[7], [0]])
        self.assert_error(errors.InvalidRanks, ((1,),), hidden_sum, 0, [[1]])
        for weight, ranks in WRONG_RANKS:
            if weight <= 6:
                self.assert_error(errors.InvalidRanks, (ranks,), hidden_sum, weight, [(), list(ranks), (-1,)])

    def test_weights(self):
        for weight in (-1, 7, 8, 9, 10, BIG, -BIG):
            for sets in ([], [()], [(2, 1)], [[1]] * 3):
                self.assert_error(errors.InvalidWeight, (weight,), hidden_sum, weight, sets)

    def test_equal_calls(self):
        for weight in range(7):
            sets = rank_sets(weight)[:cd_count(weight) - 1]
            self.assertEqual(hidden_sum(weight, sets), hidden_sum(weight, list(sets)))

    def test_judged(self):
        hidden = WordSum("cd", 2, [("cc", 1), ("d", -2)])
        self.assertIs(is_hidden(hidden, [(1,)]), True)
        self.assertIs(is_hidden(word_sum=hidden, rank_sets=([1], (2,), [1])), True)
        self.assertIs(is_hidden(hidden, [()]), False)
        self.assertIs(is_hidden(hidden, [(1,), (2,), (1, 2)]), True)
        self.assertIs(is_hidden(hidden, [(1,), (), (2,)]), False)
        self.assertIs(is_hidden(hidden + single("cd", "d"), [(1,)]), False)

    def test_judged_letters_zero_sums_and_the_empty_list(self):
        for word_sum in AB_SUMS:
            self.assertIs(is_hidden(word_sum, []), False)
            self.assertIs(is_hidden(word_sum, [(1,)]), False)
        for weight in range(10):
            self.assertIs(is_hidden(zero_sum("cd", weight), []), False)
            self.assertIs(is_hidden(zero_sum("cd", weight), [()]), False)
        for word_sum in many_sums(223, 3):
            self.assertIs(is_hidden(word_sum, []), bool(word_sum.terms))
            self.assertIs(is_hidden(word_sum, ()), bool(word_sum.terms))

    def test_judged_sets_that_are_none(self):
        for weight, ranks in WRONG_RANKS:
            word_sum = hidden_sum(weight, []) if weight <= 6 else single("cd", "d" * 4 + "c")
            self.assertIs(is_hidden(word_sum, [ranks]), False)
            self.assertIs(is_hidden(word_sum, [list(ranks)]), False)
        self.assertIs(is_hidden(WordSum("cd", 2, [("cc", 1), ("d", -2)]), [(1,), (2, 1)]), False)
        self.assertIs(is_hidden(single("cd", "c"), [(2,)]), False)

    def test_judged_weight_nine(self):
        word_sum = WordSum("cd", 9, [("c" * 9, 1), ("d" + "c" * 7, -2)])
        self.assertIs(is_hidden(word_sum, [(1,)] * 1000), True)
        self.assertIs(is_hidden(word_sum, [(1,), (1, 2, 3, 4, 5, 6, 7, 8, 9)]), True)
        self.assertIs(is_hidden(word_sum, [(3,)]), False)


class Heaps(Asks, unittest.TestCase):
    """Point [63]."""

    def test_both_heaps(self):
        self.assertEqual(heaps(single("cd", "d")), ((("d", 1),), (("cc", 1),)))
        self.assertEqual(heaps(word_sum=single("cd", "c")), ((("c", 1),), ()))
        self.assertEqual(heaps(-single("cd", "dd")), ((("ccd", 1), ("dcc", 1)), (("cccc", 1), ("dd", 1))))
        for word_sum in many_sums(224):
            plus, minus = heaps(word_sum)
            self.assertEqual(sorted(plus + tuple((word, -times) for word, times in minus)),
                             list(combination(word_sum)))
            for heap in (plus, minus):
                self.assertIs(heap.__class__, tuple)
                self.assertTrue(all(times > 0 for _, times in heap))
                self.assertEqual(list(heap), sorted(heap))

    def test_zero_sums_and_letters_ab(self):
        for weight in range(10):
            self.assertEqual(heaps(zero_sum("cd", weight)), ((), ()))
        for word_sum in AB_SUMS:
            self.assert_error(errors.InvalidLetters, ("ab",), heaps, word_sum)

    def test_counts_of_heaps(self):
        for heap, ranks, number in (
            ([("c", 1)], [1], 2), ([("c", 5)], (), 5), ([("d", 2), ("cc", 3)], [1], 2 * 3 + 3 * 2),
            ([("d", 2), ["cc", 3]], (1, 2), 2 * 6 + 3 * 4), ([("", 7)], [], 7), ([("c", 0)], [1], 0),
            ([("c", -4)], [1], -8), ([("c", 2), ("c", -1), ("c", BIG)], (1,), 2 * (1 + BIG)),
            ([("c", 1), ("", 1), ("d", 1), ("c" * 8, 1)], (), 4), ((["d", 2],), [2], 6),
        ):
            self.assertEqual(heap_alpha(heap, ranks), number)
            self.assertEqual(heap_alpha(heap=tuple(heap), ranks=list(ranks)), number)

    def test_the_empty_heap_has_no_counts(self):
        for ranks in [(), (1,), (2, 1), (77,), [0], list(range(100))]:
            self.assertEqual(heap_alpha([], ranks), 0)
            self.assertEqual(heap_alpha((), ranks), 0)

    def test_the_sum_of_the_counts_of_basis_orders(self):
        source = random.Random(225)
        for weight in range(9):
            words = cd_words(weight)
            heap = [(source.choice(words), source.randint(-5, 5)) for _ in range(6)]
            for ranks in source.sample(rank_sets(weight), min(5, 2 ** weight)):
                due = sum(times * alpha(basis_order(word), ranks) for word, times in heap)
                self.assertEqual(heap_alpha(heap, ranks), due)

    def test_which_error_goes_first(self):
        for heap, ranks, error, values in (
            ([("ccccccccc", 1), ("x", 0)], (9,), errors.InvalidWord, ("x",)),
            ([("x", 1), ("a\n", 1)], (9,), errors.InvalidWord, ("x",)),
            ([("c" * 9, 1), ("c", 0)], (9,), errors.InvalidRanks, ((9,),)),
            ([("c" * 9, 1), ("c" * 8, 0)], (9,), errors.InvalidRanks, ((9,),)),
            ([("c" * 9, 1)], (9,), errors.TooHigh, (10,)),
            ([("c" * 9, 1), ("c" * 8, 1)], (8,), errors.TooHigh, (10,)),
            ([("c" * 9, 0)], (2, 1), errors.TooHigh, (10,)),
            ([("c" * 8, 1), ("d" * 30, 0), ("c" * 9, 1)], (), errors.TooHigh, (61,)),
            ([("c" * 30, 0), ("d" * 30, 0)], (100,), errors.TooHigh, (31,)),
        ):
            self.assert_error(error, values, heap_alpha, heap, ranks)
            self.assert_error(error, values, heap_alpha, [list(pair) for pair in heap], list(ranks))

    def test_ranks_that_fit_some_words_only(self):
        self.assertEqual(heap_alpha([("cc", 1), ("d", 1)], (2,)), 5)
        for heap in ([("cc", 1), ("c", 1)], [("c", 0), ("cc", 1)], [("cc", 1), ("", 0)]):
            self.assert_error(errors.InvalidRanks, ((2,),), heap_alpha, heap, (2,))
        self.assertEqual(heap_alpha([("c", 1), ("d", 1), ("ccc", 1)], (1,)), 2 + 3 + 2)
        for weight, ranks in WRONG_RANKS:
            if weight < 9:
                self.assert_error(errors.InvalidRanks, (ranks,), heap_alpha, [("c" * weight, 0)], ranks)

    def test_heaps_of_hidden_sums(self):
        source = random.Random(226)
        for weight in range(7):
            sets = source.sample(rank_sets(weight), cd_count(weight) - 1)
            plus, minus = heaps(hidden_sum(weight, sets))
            for ranks in sets:
                self.assertEqual(heap_alpha(plus, ranks), heap_alpha(minus, ranks))
            self.assertNotEqual(rebuilt(weight, plus), rebuilt(weight, minus))

    def test_a_great_heap(self):
        words = [word for weight in range(9) for word in cd_words(weight)]
        heap = [(word, at) for at, word in enumerate((words * 12)[:1000])]
        self.assertEqual(heap_alpha(heap, ()), sum(range(1000)))


if __name__ == "__main__":
    unittest.main()

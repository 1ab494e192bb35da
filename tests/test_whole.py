"""What the points say of several modules together, on many orders, even and uneven."""

import itertools
import random
import time
import unittest

from evenodds.absum import ab_sum, stretch_sum, sum_of_betas
from evenodds.bruhat import rearrangement_stretch, rearrangements
from evenodds.cdread import cd_sum, is_readable, unread_stretch
from evenodds.cdwords import cd_count, cd_words, spread
from evenodds.counts import Counts, alpha, alphas, betas_of_alphas, chains
from evenodds.crossing import border, closure_below, crossing, crossing_ends
from evenodds.engine import Engine
from evenodds.evencheck import is_even, uneven_stretch
from evenodds.faces import cross, cube, faces_of, polygon, simplex
from evenodds.flagsback import broken_balance, few_numbers, is_balanced, told_back
from evenodds.labels import (
    corner_labels,
    fall_counts,
    falling_chains,
    falls,
    find_labels,
    full_chains,
    is_single,
    label_row,
    product_labels,
    rising_chains,
    risen_chain,
    turned_labels,
    unsingle_stretch,
)
from evenodds.letterrules import prism_sum, pyramid_sum, splits, splits_by_tops
from evenodds.mirror import unmirrored_ranks, unmirrored_stretch
from evenodds.moebius import is_mu_table, mu, mu_table, signed_total, unlike_mu
from evenodds.orders import Order
from evenodds.ordertext import format_order, parse_order
from evenodds.papers import full_paper, is_full_paper, is_verdict, verdict
from evenodds.products import laid, prism, product, pyramid, turned
from evenodds.ranksets import rank_sets
from evenodds.recur import ab_sum_by_tops, cd_by_tops
from evenodds.relations import is_matching
from evenodds.script import run
from evenodds.signrows import (
    face_order,
    is_arrangement,
    joined_rows,
    line_rows,
    lot_sum,
    row_count,
    row_counts,
    undoubled_term,
    zero_order,
)
from evenodds.span import (
    alpha_of_cd,
    basis_order,
    basis_sum,
    combination,
    heap_alpha,
    heaps,
    hidden_sum,
    is_hidden,
    rebuilt,
)
from evenodds.stretches import stretch_order, stretches
from evenodds.toric import (
    cut_row,
    long_of_sum,
    long_row,
    short_of_sum,
    short_row,
    short_turn,
    times_rows,
    unmirrored_item,
)
from evenodds.words import format_sum, single
from samples import (
    beside,
    crooked,
    diamond,
    full,
    line,
    one,
    random_orders,
    skew,
    some_sums,
    triangle,
    two,
    wide,
    widest,
)


def even_orders():
    """Even orders that the modules make, of at most 40 things."""
    found = [one(), two(), diamond(), polygon(2), polygon(5), polygon(19), cube(2), cube(3), cross(3), simplex(1),
             simplex(3), simplex(5), rearrangements(3), rearrangements(4), rearrangement_stretch("1324", "4231"),
             faces_of(4, [[0, 1], [1, 2], [2, 3], [0, 3]]), full(2, 2, 2, 2, 2, 2, 2, 2)]
    found += [basis_order(word) for word in ("cc", "dc", "cd", "ccd", "dd", "dddd", "cccccccc")]
    found += [face_order(rows) for rows in (line_rows(2), line_rows(3), line_rows(6),
                                            joined_rows(line_rows(3), line_rows(1)))]
    found += [crossing(polygon(4), ["none", "v0"]), crossing(cube(2), ["none", "c00", "c01", "c0x"])]
    return found + [product(triangle(), two()), laid(polygon(4), diamond()), prism(polygon(3)), pyramid(cube(2)),
                    turned(basis_order("cdc"))]


def all_orders(seed, count=40):
    """Even orders and others, most of which are not even."""
    found = even_orders() + [crooked(), skew(), beside(), line(3), line(10), wide(40), widest(), full(1, 2, 3)]
    found += [zero_order(rows) for rows in (line_rows(4), joined_rows(line_rows(2), line_rows(1)))]
    return found + random_orders(random.Random(seed), count)


class Evenness(unittest.TestCase):
    """The many ways to tell an even order: [33], [37], [41], [44], [48], [70], [71], [78]."""

    def test_whole_orders(self):
        for order in all_orders(401):
            even = is_even(order)
            self.assertIs(unlike_mu(order) is None, even)
            self.assertEqual(verdict(order)[0], "even" if even else "uneven")
            self.assertIs(is_verdict(order, verdict(order)), True)
            self.assertIs(Engine(order).is_even(), even)
            self.assertIs(is_even(turned(order)), even)
            self.assertIs(is_even(parse_order(format_order(order))), even)
            self.assertEqual(run("ask even", start=order), ("yes" if even else "no",))
            rows = [long_row(stretch_order(order, low, high)) for low, high in stretches(order)]
            self.assertIs(all(unmirrored_item(row) is None for row in rows), even)
            if even and order.height > 0:
                self.assertIsNone(unmirrored_ranks(order))
                self.assertIs(is_balanced(alphas(order)), True)
                self.assertEqual(cd_by_tops(order), cd_sum(order))
                self.assertEqual(short_turn(order), (short_row(order) + (0,) * 10)[:order.height + 1][::-1])

    def test_small_orders(self):
        for order in all_orders(402):
            if order.size > 16:
                continue
            even = is_even(order)
            self.assertIs(unmirrored_stretch(order) is None, even)
            self.assertIs(unread_stretch(order) is None, even)
            if even:
                self.assertIs(is_full_paper(order, full_paper(order)), True)
            else:
                low, high, evens, odds = uneven_stretch(order)
                self.assertEqual(unmirrored_stretch(order)[:2], (low, high))
                self.assertEqual(unread_stretch(order)[:2], (low, high))
                self.assertEqual(unlike_mu(order)[:2], (low, high))
                self.assertEqual(unlike_mu(order)[2], 1 - signed_total(order, low, high))
                self.assertEqual(unmirrored_stretch(order)[5], mu(order, low, high))
                self.assertEqual(unread_stretch(order)[3], mu(order, low, high) - 1)


class Sums(unittest.TestCase):
    """Sums and counts in several ways: [43], [46], [48], [55], [57], [59] to [63], [79]."""

    def test_letter_sums(self):
        for order in all_orders(403):
            if order.height == 0:
                continue
            word_sum = ab_sum(order)
            self.assertEqual(ab_sum_by_tops(order), word_sum)
            self.assertEqual(ab_sum(turned(order)), word_sum.reversed_words())
            self.assertEqual(splits_by_tops(order), splits(word_sum))
            self.assertEqual(long_of_sum(word_sum), long_row(order))
            self.assertEqual(short_of_sum(word_sum), short_row(order))
            self.assertEqual(short_row(order), cut_row(long_row(order)))
            readable = is_readable(word_sum)
            self.assertIs(is_balanced(alphas(order)), readable)
            self.assertIs(broken_balance(alphas(order)) is None, readable)
            self.assertIs(is_mu_table(order, mu_table(order)), True)
            if order.size <= 20 and order.height < 9:
                self.assertEqual(ab_sum(pyramid(order)), pyramid_sum(word_sum))
                self.assertEqual(short_of_sum(pyramid_sum(word_sum)), short_row(pyramid(order)))
            if order.size <= 14 and order.height < 9:
                self.assertEqual(ab_sum(prism(order)), prism_sum(word_sum))

    def test_even_orders_are_combinations_of_basis_orders(self):
        for order in even_orders():
            if order.height == 0:
                continue
            word_sum = cd_sum(order)
            self.assertEqual(rebuilt(order.weight, combination(word_sum)), word_sum)
            self.assertEqual(told_back(order.weight, few_numbers(alphas(order))), alphas(order))
            plus, minus = heaps(word_sum)
            for ranks in rank_sets(order.weight)[:30]:
                number = alpha(order, ranks)
                self.assertEqual(alpha_of_cd(word_sum, ranks), number)
                self.assertEqual(heap_alpha(plus, ranks) - heap_alpha(minus, ranks), number)

    def test_hidden_sums(self):
        source = random.Random(404)
        for weight in range(7):
            for many in range(cd_count(weight)):
                sets = source.sample(rank_sets(weight), many)
                word_sum = hidden_sum(weight, sets)
                self.assertIs(is_hidden(word_sum, sets), True)
                plus, minus = heaps(word_sum)
                for ranks in sets:
                    self.assertEqual(heap_alpha(plus, ranks), heap_alpha(minus, ranks))
                self.assertNotEqual(rebuilt(weight, plus), rebuilt(weight, minus))

    def test_the_few_numbers_of_a_sum_tell_all_its_counts(self):
        for weight in range(2, 7):
            for word_sum in some_sums("cd", weight, random.Random(405), 6)[1:]:
                counts = Counts(weight, {ranks: alpha_of_cd(word_sum, ranks) for ranks in rank_sets(weight)})
                self.assertEqual(told_back(weight, few_numbers(counts)), counts)

    def test_basis_orders(self):
        for weight in range(9):
            for word in cd_words(weight):
                order = basis_order(word)
                self.assertEqual(cd_sum(order), basis_sum(word))
                self.assertEqual(verdict(order), ("even", basis_sum(word).terms))

    def test_made_bodies(self):
        for size in range(3):
            self.assertEqual(cd_sum(cube(size + 1)), prism_sum(cd_sum(cube(size))))
            self.assertEqual(cd_sum(cube(size + 1)), cd_sum(prism(cube(size))))
        for size in range(1, 5):
            self.assertEqual(cd_sum(simplex(size + 1)), pyramid_sum(cd_sum(simplex(size))))
            self.assertEqual(cd_sum(simplex(size + 1)), cd_sum(pyramid(simplex(size))))


class Crossings(unittest.TestCase):
    """Point [69]."""

    def closed_lists(self, order, source):
        tops = [order.least, *source.sample(order.names[:-1], min(3, order.size - 1))]
        return [closure_below(order, tops[:many]) for many in (1, 2, 3)] + [order.names[:-1]]

    def test_orders(self):
        source = random.Random(406)
        for order in all_orders(407):
            if order.height == 0:
                continue
            for closed in self.closed_lists(order, source):
                try:
                    found = crossing(order, closed)
                except ValueError as error:
                    self.assertEqual((error.label, error.what), ("TooMany", "things"))
                    continue
                ends = {name: (x, y) for name, x, y in crossing_ends(order, closed)}
                self.assertEqual(found.height, order.height)
                if is_even(order):
                    self.assertIs(is_even(found), True)
                self.assertEqual({ends[name] for name in found.lowers("top")}, set(border(order, closed)))
                if len(closed) == 1:
                    pairs = [("top", order.least)] + [(name, y) for name, (_, y) in ends.items()]
                    self.assertIs(is_matching(found, turned(order), pairs), True)
                if len(closed) == order.size - 1:
                    pairs = [("top", order.greatest)] + [(name, x) for name, (x, _) in ends.items()]
                    self.assertIs(is_matching(found, order, pairs), True)


class Products(unittest.TestCase):
    """Points [51], [52], [80], [86] of pairs of orders."""

    def test_pairs(self):
        orders = [one(), two(), diamond(), polygon(4), line(3), skew(), wide(5), full(2, 1), simplex(3)]
        for left, right in itertools.product(orders, repeat=2):
            if left.size * right.size <= 40 and left.height + right.height <= 9:
                found = product(left, right)
                self.assertIs(is_even(found), is_even(left) and is_even(right))
                rows = times_rows(short_row(left), short_row(right))
                self.assertEqual(short_row(found), (rows + (0,) * 9)[:len(short_row(found))])
                self.assertEqual(sum(rows), sum(short_row(found)))
            if left.height > 0 and right.height > 0:
                self.assertEqual(ab_sum(laid(left, right)), ab_sum(left) * ab_sum(right))


class Labels(unittest.TestCase):
    """Points [84] and [85] for every single labelling that is found or made."""

    def labelled(self):
        found = [(simplex(size), corner_labels(size)) for size in range(5)]
        for order in all_orders(408, 60):
            if order.size <= 16 and 2 ** len(order.covers) <= 256:
                labels = find_labels(order, most=2)
                if labels is not None:
                    found.append((order, labels))
        found += [(turned(order), turned_labels(order, labels)) for order, labels in found]
        small = [pair for pair in found if pair[0].size <= 4][:8]
        found += [(product(left, right), product_labels(left, first, right, second))
                  for (left, first), (right, second) in itertools.product(small, repeat=2)]
        return found

    def test_single_labellings(self):
        uneven = 0
        for order, labels in self.labelled():
            self.assertIs(is_single(order, labels), True)
            self.assertIsNone(unsingle_stretch(order, labels))
            uneven += not is_even(order)
            for low, high in stretches(order):
                self.assertEqual(len(rising_chains(order, labels, low, high)), 1)
                sign = (-1) ** (order.rank(high) - order.rank(low))
                self.assertEqual(mu(order, low, high), sign * len(falling_chains(order, labels, low, high)))
            if order.height == 0:
                continue
            counts = fall_counts(order, labels)
            self.assertEqual(counts, betas_of_alphas(alphas(order)))
            self.assertEqual(sum_of_betas(counts), ab_sum(order))
            every = full_chains(order, order.least, order.greatest)
            for ranks in rank_sets(order.weight):
                risen = [risen_chain(order, labels, things) for things in chains(order, ranks)]
                due = [chain for chain in every if set(falls(label_row(order, labels, chain))) <= set(ranks)]
                self.assertEqual(sorted(risen), sorted(due))
        self.assertGreater(uneven, 5)

    def test_a_great_single_labelling(self):
        order, labels = simplex(5), corner_labels(5)
        for low, high in stretches(order):
            self.assertEqual(len(rising_chains(order, labels, low, high)), 1)
            self.assertEqual(len(falling_chains(order, labels, low, high)), 1)
            self.assertIn(mu(order, low, high), (1, -1))


class Rows(unittest.TestCase):
    """Points [89] to [92] together."""

    def test_orders(self):
        for order in all_orders(409):
            found = lot_sum(order)
            self.assertEqual(spread(found), sum_of_betas(betas_of_alphas(row_counts(order))))
            self.assertIsNone(undoubled_term(found))
            for name in order.names[:5]:
                self.assertEqual(row_count(order, name, name), 1)
            self.assertEqual(row_counts(order)[()], 1)

    def test_arrangements(self):
        lists = [line_rows(count) for count in range(1, 7)] + [("0",), ("",), ("000000",)]
        lists += [joined_rows(x, y) for x in lists for y in lists
                  if len(x) * len(y) <= 39 and len(x[0]) + len(y[0]) <= 6]
        for rows in lists:
            self.assertIs(is_arrangement(rows), True)
            faces, lots = face_order(rows), zero_order(rows)
            self.assertIs(is_even(faces), True)
            self.assertEqual(lots.height, faces.height - 1)
            self.assertEqual(row_counts(lots), alphas(faces))
            self.assertEqual(lot_sum(lots), cd_sum(faces))
            self.assertEqual(verdict(faces), ("even", lot_sum(lots).terms))

    def test_turned_orders_turn_nothing_else(self):
        for size in range(1, 4):
            self.assertEqual(cd_sum(cross(size)), cd_sum(cube(size)).reversed_words())
            self.assertEqual(short_row(turned(cube(size))), short_row(cross(size)))


class Scripts(unittest.TestCase):
    """Points [72] to [75]: a script tells what the functions tell."""

    def test_bodies(self):
        for word, function, sizes in (("polygon", polygon, (2, 3, 7, 19)), ("simplex", simplex, (1, 4, 5)),
                                      ("cube", cube, (0, 1, 3)), ("cross", cross, (0, 2, 3)),
                                      ("rearrangements", rearrangements, (2, 3, 4))):
            for size in sizes:
                order = function(size)
                found = run(f"body {word} {size}\nask order\nask sum\nask few\nask verdict\nmake turned\nask letters")
                numbers = " ".join(map(str, few_numbers(alphas(order))))
                self.assertEqual(found, (
                    "ok", format_order(order), format_sum(cd_sum(order)), numbers, f"even {format_sum(cd_sum(order))}",
                    "ok", format_sum(ab_sum(order).reversed_words())))

    def test_crossings(self):
        for order in (polygon(5), cube(2), crooked()):
            closed = closure_below(order, order.at_rank(1)[:2])
            found = run(f"cross {','.join(closed)}\nask order\nask even", start=order)
            self.assertEqual(found, ("ok", format_order(crossing(order, closed)), "yes" if is_even(order) else "no"))


class Time(unittest.TestCase):
    """Orders of 40 things and height 9, and sums of weight 9, take a few seconds at most; all calls here together."""

    def test_great_orders(self):
        begun = time.monotonic()
        for order in (widest(), wide(40), full(19, 19), full(13, 13, 12), line(10), polygon(19)):
            for function in (long_row, short_turn, row_counts, lot_sum, verdict, unlike_mu):
                function(order)
            for closed in (order.names[:1], order.names[:-1]):
                crossing_ends(order, closed)
                border(order, closed)
            labels = {pair: at % 5 for at, pair in enumerate(order.covers)}
            for low, high in stretches(order)[::7]:
                if order.rank(high) - order.rank(low) <= 4:
                    rising_chains(order, labels, low, high)
        self.assertLess(time.monotonic() - begun, 20)

    def test_small_orders_in_every_way(self):
        begun = time.monotonic()
        for order in (full(2, 2, 2, 2, 2, 2, 2), wide(16), full(7, 7), full(3, 3, 3, 3, 2)):
            labels = {pair: at for at, pair in enumerate(order.covers)}
            unsingle_stretch(order, labels)
            fall_counts(order, labels)
            find_labels(order, most=1)
            risen_chain(order, labels, [])
            if is_even(order):
                self.assertIs(is_full_paper(order, full_paper(order)), True)
            self.assertEqual(stretch_sum(order, order.least, order.greatest), ab_sum(order))
        self.assertLess(time.monotonic() - begun, 20)

    def test_great_sums(self):
        begun = time.monotonic()
        for letters in ("ab", "cd"):
            for word_sum in some_sums(letters, 9, random.Random(410), 3) + [single(letters, letters[0] * 9)]:
                long_of_sum(word_sum)
                if letters == "cd":
                    self.assertEqual(rebuilt(9, combination(word_sum)), word_sum)
                    is_hidden(word_sum, rank_sets(9))
                    undoubled_term(word_sum)
        hidden_sum(6, rank_sets(6)[-12:])
        self.assertLess(time.monotonic() - begun, 20)


class Names(unittest.TestCase):
    """Equal orders are told apart by nothing, whatever the names were given as."""

    def test_the_given_sequence_leaves_no_trace(self):
        order = polygon(4)
        other = Order(list(order.names), list(order.covers)[::-1])
        self.assertEqual(order, other)
        for function in (verdict, full_paper, lot_sum, long_row, short_turn):
            self.assertEqual(function(order), function(other))
        self.assertEqual(crossing(order, ["none", "v0"]), crossing(other, ["v0", "none"]))


if __name__ == "__main__":
    unittest.main()

"""The module evenodds.labels: points [81] to [86]."""

import itertools
import random
import unittest

from evenodds import errors
from evenodds.counts import Counts, alphas, betas_of_alphas, chains
from evenodds.faces import corners_of, simplex
from evenodds.labels import (
    corner_labels,
    fall_counts,
    falling_chains,
    falls,
    find_labels,
    full_chains,
    is_single,
    is_unsingle_paper,
    label_row,
    product_labels,
    rising_chains,
    risen_chain,
    turned_labels,
    unsingle_stretch,
)
from evenodds.moebius import mu
from evenodds.orders import Order
from evenodds.products import product, turned
from evenodds.ranksets import rank_sets
from evenodds.stretches import stretches
from samples import (
    BIG,
    Asks,
    answer,
    crooked,
    diamond,
    full,
    line,
    one,
    random_orders,
    triangle,
    two,
    wide,
    widest,
)

W, X, Y, Z = "w", "x", "y", "z"
# For the diamond, whose covers by place are wy, wx, yz, xz.
SINGLE = {(W, Y): 1, (W, X): 2, (Y, Z): 2, (X, Z): 1}
NO_RISE = {(W, Y): 2, (W, X): 2, (Y, Z): 1, (X, Z): 1}
TWO_RISES = {(W, Y): 1, (W, X): 1, (Y, Z): 1, (X, Z): 1}


def same(order, label=1):
    return {pair: label for pair in order.covers}


def places(order):
    """The labelling by the place of each cover in the sequence."""
    return {pair: at for at, pair in enumerate(order.covers)}


def faulty(order):
    """Faulty labellings of an order with three or more covers, each with its error and the values of this."""
    covers = order.covers
    good = same(order)
    count = len(covers)
    fewer = {pair: 1 for pair in covers[1:]}
    lower, upper = covers[1]
    found = [
        ({}, errors.WrongCount, (count, 0)),
        (fewer, errors.WrongCount, (count, count - 1)),
        ({**good, ("q", "r"): 1}, errors.WrongCount, (count, count + 1)),
        ({**fewer, ("q", "r"): 1, ("s", "t"): 1}, errors.WrongCount, (count, count + 1)),
        ({("q", "r"): 1}, errors.WrongCount, (count, 1)),
    ]
    for wrong in ((upper, lower), ("q", upper), (lower, "q"), ("q", "r"), (lower, lower), ("", "\n"),
                  (order.least, order.greatest)):
        others = [pair for pair in covers if pair != (lower, upper)]
        found.append(({**{pair: 1 for pair in others}, wrong: 1}, errors.MissingCover, wrong))
        found.append(({wrong: 1, **{pair: 1 for pair in others[1:]}, ("s", "t"): 1}, errors.MissingCover, wrong))
        found.append(({others[0]: 1, wrong: 1, ("s", "t"): 1, **{pair: 1 for pair in others[2:]}},
                      errors.MissingCover, wrong))
    return found


def single_labellings(seed=261):
    """Orders of at most 16 things with single labellings that were found, and some made from them."""
    found = []
    for order in random_orders(random.Random(seed), 30) + [one(), two(), diamond(), line(3), wide(5), full(2, 1)]:
        if 2 ** len(order.covers) <= 256 and order.size <= 16:
            labels = find_labels(order, most=2)
            found += [(order, labels)] if labels is not None else []
    found += [(simplex(size), corner_labels(size)) for size in range(5)]
    found += [(turned(order), turned_labels(order, labels)) for order, labels in found]
    found.append((product(diamond(), two()), product_labels(diamond(), SINGLE, two(), {("a", "b"): 7})))
    found.append((product(diamond(), diamond()), product_labels(diamond(), SINGLE, diamond(), SINGLE)))
    return found


class FullChains(Asks, unittest.TestCase):
    """Point [81]: `full_chains`."""

    def test_small_orders(self):
        self.assertEqual(full_chains(two(), "a", "b"), (("a", "b"),))
        self.assertEqual(full_chains(order=diamond(), low="w", high="z"), (("w", "y", "z"), ("w", "x", "z")))
        self.assertEqual(full_chains(diamond(), "w", "x"), (("w", "x"),))
        self.assertEqual(full_chains(line(10), "t2", "t5"), (("t2", "t3", "t4", "t5"),))
        self.assertEqual(full_chains(crooked(), "bot", "k"), (("bot", "b", "k"), ("bot", "a", "k")))

    def test_equal_ends(self):
        for order in (one(), diamond(), widest()):
            for name in order:
                self.assertEqual(full_chains(order, name, name), ((name,),))

    def test_ascending_by_places(self):
        for order in random_orders(random.Random(262), 30) + [triangle(), full(3, 2, 3), Order(
                ["o", "b", "a", "n"], [("n", "a"), ("n", "b"), ("a", "o"), ("b", "o")])]:
            for low, high in stretches(order, least_length=0):
                found = full_chains(order, low, high)
                told = [[order.place(name) for name in chain] for chain in found]
                self.assertEqual(told, sorted(told))
                self.assertEqual(len(set(found)), len(found))
                for chain in found:
                    self.assertEqual((chain[0], chain[-1]), (low, high))
                    self.assertTrue(all(pair in order.covers for pair in zip(chain, chain[1:])))
            if order.height > 0:
                every = tuple(range(1, order.height))
                self.assertEqual(full_chains(order, order.least, order.greatest), chains(order, every, with_ends=True))

    def test_two_thousand_and_more(self):
        order = full(5, 5, 5, 4, 4)
        found = full_chains(order, "n", "o")
        self.assertEqual((len(found), len(set(found))), (2000, 2000))
        # One path more beside the others.
        beside = [f"p{k}" for k in range(5)]
        path = ["n"] + beside + ["o"]
        more = Order(order.names + tuple(beside), order.covers + tuple(zip(path, path[1:])))
        for other, low, high in ((more, "n", "o"), (full(5, 5, 5, 5, 4), "n", "o"), (widest(), "n", "o"),
                                 (full(5, 5, 5, 5, 5, 1), "n", "m6-0"), (full(4, 3, 3, 5, 3, 4, 4, 3), "n", "o")):
            self.assert_error(errors.TooMany, ("chains", 2000), full_chains, other, low, high)
            for function in (rising_chains, falling_chains):
                # However many of them rise or fall.
                for labels in (same(other), places(other)):
                    self.assert_error(errors.TooMany, ("chains", 2000), function, other, labels, low, high)
        self.assertEqual(len(full_chains(full(5, 5, 5, 5, 5, 1), "m1-0", "m6-0")), 625)
        self.assertEqual(rising_chains(order, same(order), "n", "o"), found)
        self.assertEqual(falling_chains(order, same(order), "n", "o"), ())

    def test_unknown_names_and_not_at_most(self):
        for low, high, name in (("q", "w", "q"), ("w", "q", "q"), ("q", "q", "q"), ("q", "r", "q"), ("", "w", ""),
                                ("z", "W", "W"), ("x", "y\n", "y\n")):
            self.assert_error(errors.UnknownName, (name,), full_chains, diamond(), low, high)
        for low, high in (("z", "w"), ("x", "y"), ("y", "x"), ("x", "w"), ("z", "x")):
            self.assert_error(errors.NotBelow, (low, high), full_chains, diamond(), low, high)


class Labellings(Asks, unittest.TestCase):
    """Point [81]: labellings and `label_row`; [82]: which error goes first."""

    def test_rows(self):
        labels = {(W, Y): BIG, (W, X): -BIG, (Y, Z): 0, (X, Z): 7}
        self.assertEqual(label_row(diamond(), labels, ["w", "y", "z"]), (BIG, 0))
        self.assertEqual(label_row(order=diamond(), labels=labels, things=("w", "x", "z")), (-BIG, 7))
        self.assertEqual(label_row(diamond(), labels, ["x", "z"]), (7,))

    def test_fewer_than_two_names(self):
        for things in ([], (), ["w"], ["z"]):
            self.assertEqual(label_row(diamond(), SINGLE, things), ())
        self.assertEqual(label_row(one(), {}, ["x"]), ())
        self.assertEqual(label_row(one(), {}, []), ())

    def test_neighbours_that_are_no_cover(self):
        for things, pair in ((["w", "z"], ("w", "z")), (["y", "w"], ("y", "w")), (["w", "w"], ("w", "w")),
                             (["w", "y", "x", "z"], ("y", "x")), (["w", "y", "z", "z", "w"], ("z", "z")),
                             (["z", "x", "w"], ("z", "x"))):
            self.assert_error(errors.MissingCover, pair, label_row, diamond(), SINGLE, things)
        self.assert_error(errors.MissingCover, ("x", "x"), label_row, one(), {}, ["x", "x"])

    def test_faulty_labellings(self):
        for order in (diamond(), triangle(), crooked(), full(2, 2, 2)):
            for labels, error, values in faulty(order):
                for things in ([], [order.least], [order.least, order.least], list(order.names)):
                    self.assert_error(error, values, label_row, order, labels, things)
                    self.assert_error(errors.UnknownName, ("q",), label_row, order, labels, things + ["q", "r"])
                for function in (rising_chains, falling_chains):
                    # These are listed before NotBelow and TooMany, but behind UnknownName.
                    for low, high in ((order.least, order.greatest), (order.greatest, order.least),
                                      (order.least, order.least)):
                        self.assert_error(error, values, function, order, labels, low, high)
                    self.assert_error(errors.UnknownName, ("q",), function, order, labels, "q", order.least)
                    self.assert_error(errors.UnknownName, ("q",), function, order, labels, order.least, "q")
                for function in (unsingle_stretch, is_single, fall_counts, turned_labels):
                    self.assert_error(error, values, function, order, labels)
                for paper in (None, (), [], (order.least, order.greatest, ())):
                    self.assert_error(error, values, is_unsingle_paper, order, labels, paper)
                self.assert_error(error, values, risen_chain, order, labels, [])
                self.assert_error(error, values, risen_chain, order, labels, [order.least])
                self.assert_error(errors.UnknownName, ("q",), risen_chain, order, labels, [order.least, "q"])

    def test_an_order_of_one_thing_has_the_empty_labelling(self):
        self.assertIs(is_single(one(), {}), True)
        for labels in ({("x", "x"): 1}, {("q", "r"): 0}):
            self.assert_error(errors.WrongCount, (0, 1), unsingle_stretch, one(), labels)
            self.assert_error(errors.WrongCount, (0, 1), label_row, one(), labels, [])

    def test_great_orders_with_faulty_labellings(self):
        order = widest()
        for labels, error, values in faulty(order)[:8]:
            for function in (rising_chains, falling_chains):
                self.assert_error(error, values, function, order, labels, "n", "o")
            for function in (unsingle_stretch, is_single, fall_counts, turned_labels):
                self.assert_error(error, values, function, order, labels)


class RisesAndFalls(Asks, unittest.TestCase):
    """Point [82]."""

    def test_falls(self):
        for row, due in (((), ()), ((5,), ()), ((1, 2), ()), ((2, 1), (1,)), ((1, 1), ()), ((3, 2, 1), (1, 2)),
                         ((1, 3, 2, 2, 1), (2, 4)), ((-BIG, BIG, -BIG), (2,)), ((0, -1, -1, -2), (1, 3)),
                         ((BIG, BIG - 1), (1,)), (tuple(range(9)), ()), (tuple(range(9, 0, -1)), tuple(range(1, 9)))):
            self.assertEqual(falls(row), due)
            self.assertEqual(falls(row=list(row)), due)

    def test_chains(self):
        for labels, rising, falling in (
            (SINGLE, (("w", "y", "z"),), (("w", "x", "z"),)),
            (NO_RISE, (), (("w", "y", "z"), ("w", "x", "z"))),
            (TWO_RISES, (("w", "y", "z"), ("w", "x", "z")), ()),
            ({(W, Y): BIG, (W, X): -BIG, (Y, Z): BIG - 1, (X, Z): 0}, (("w", "x", "z"),), (("w", "y", "z"),)),
            ({(W, Y): -2, (W, X): -1, (Y, Z): -1, (X, Z): -2}, (("w", "y", "z"),), (("w", "x", "z"),)),
        ):
            self.assertEqual(rising_chains(diamond(), labels, "w", "z"), rising)
            self.assertEqual(rising_chains(order=diamond(), labels=labels, low="w", high="z"), rising)
            self.assertEqual(falling_chains(diamond(), labels, "w", "z"), falling)
            self.assertEqual(falling_chains(order=diamond(), labels=labels, low="w", high="z"), falling)

    def test_rows_of_no_and_of_one_item(self):
        for function in (rising_chains, falling_chains):
            for name in diamond():
                self.assertEqual(function(diamond(), NO_RISE, name, name), ((name,),))
            for low, high in diamond().covers:
                self.assertEqual(function(diamond(), NO_RISE, low, high), ((low, high),))
            self.assertEqual(function(one(), {}, "x", "x"), (("x",),))

    def test_a_row_falls_everywhere(self):
        order = line(5)
        for row, rises, drops in (((1, 2, 3, 4), 1, 0), ((4, 3, 2, 1), 0, 1), ((4, 3, 3, 1), 0, 0),
                                  ((1, 1, 1, 1), 1, 0), ((4, 3, 2, 3), 0, 0)):
            labels = dict(zip(order.covers, row))
            self.assertEqual(len(rising_chains(order, labels, "t0", "t4")), rises)
            self.assertEqual(len(falling_chains(order, labels, "t0", "t4")), drops)

    def test_keys_in_any_sequence(self):
        labels = dict(sorted(SINGLE.items(), reverse=True))
        self.assertEqual(rising_chains(diamond(), labels, "w", "z"), (("w", "y", "z"),))
        self.assertIs(is_single(diamond(), labels), True)

    def test_errors_of_the_stretch(self):
        for function in (rising_chains, falling_chains):
            for low, high in (("z", "w"), ("x", "y"), ("y", "w")):
                self.assert_error(errors.NotBelow, (low, high), function, diamond(), SINGLE, low, high)
            for low, high, name in (("q", "r", "q"), ("z", "q", "q"), ("q", "q", "q")):
                self.assert_error(errors.UnknownName, (name,), function, diamond(), SINGLE, low, high)

    def test_orders_of_forty_things(self):
        for order in (wide(40), full(19, 19), line(10)):
            labels = places(order)
            found = rising_chains(order, labels, order.least, order.greatest)
            self.assertEqual(found, full_chains(order, order.least, order.greatest))


class Single(Asks, unittest.TestCase):
    """Point [83]."""

    def test_small_orders(self):
        for order, labels, due in (
            (diamond(), SINGLE, None), (diamond(), NO_RISE, ("w", "z", ())), (one(), {}, None),
            (two(), same(two()), None),
            (diamond(), TWO_RISES, ("w", "z", ((1, 1), (1, 1)))), (line(3), {("t0", "t1"): 1, ("t1", "t2"): 2}, None),
            (line(3), {("t0", "t1"): 2, ("t1", "t2"): 1}, ("t0", "t2", ())),
            (diamond(), {(W, Y): 1, (W, X): -BIG, (Y, Z): 5, (X, Z): BIG}, ("w", "z", ((1, 5), (-BIG, BIG)))),
            (line(4), {("t0", "t1"): 2, ("t1", "t2"): 3, ("t2", "t3"): 1}, ("t1", "t3", ())),
            (triangle(), same(triangle()), ("none", "e0", ((1, 1), (1, 1)))),
        ):
            self.assertEqual(unsingle_stretch(order, labels), due)
            self.assertEqual(unsingle_stretch(order=order, labels=labels), due)
            self.assertIs(is_single(order, labels), due is None)
            self.assertIs(is_single(order=order, labels=labels), due is None)
            if due is not None:
                self.assertIs(is_unsingle_paper(order, labels, due), True)
                self.assertIs(is_unsingle_paper(order=order, labels=labels, paper=due), True)

    def test_the_first_in_the_stretch_sequence(self):
        source = random.Random(263)
        for order in random_orders(source, 40):
            labels = {pair: source.randint(0, 3) for pair in order.covers}
            due = None
            for low, high in reversed(stretches(order)):
                rows = tuple(label_row(order, labels, chain) for chain in rising_chains(order, labels, low, high))
                if len(rows) != 1:
                    due = (low, high, rows)
                    self.assertIs(is_unsingle_paper(order, labels, due), True)
                else:
                    self.assertIs(is_unsingle_paper(order, labels, (low, high, rows)), False)
            self.assertEqual(unsingle_stretch(order, labels), due)

    def test_papers_bent_in_each_place(self):
        order, labels = full(2, 2), same(full(2, 2), 3)
        paper = unsingle_stretch(order, labels)
        self.assertEqual(paper, ("n", "m2-0", ((3, 3), (3, 3))))
        row = (3, 3)
        for bent in (
            ("n", "m2-1", ((3, 3), (3,))), ("m2-0", "n", (row, row)), ("n", "n", (row, row)), ("q", "m2-0", (row, row)),
            ("n", "q", (row, row)), ("n", "m1-0", ((3,),)), ("n", "m2-0", (row,)), ("n", "m2-0", (row, row, row)),
            ("n", "m2-0", ()), ("n", "m2-0", (row, (3, 4))), ("n", "m2-0", ((3,), row)),
            ("n", "m2-0", ((3, 3, 3), row)),
            ("n", "m2-0", row), ("n", "m2-0", None), ("n", "m2-0", "33"), ("n", "m2-0", 3), ("n", "m2-0", (row, None)),
            ("n", "m2-0", ((row,), row)), ("n", "m2-0", (row, row), ()), ("n", "m2-0"), ("n",), (), paper * 2, (paper,),
            (None, "m2-0", (row, row)), ("n", 3, (row, row)), (("n",), "m2-0", (row, row)),
            ("n", ("m2-0",), (row, row)),
            ("o", "m2-0", (row, row)), ("m1-0", "m2-0", ((3,),)), ("m1-0", "m1-1", ()), ("m2-0", "m1-0", ()),
            ("n", "m2-0", (("3", 3), row)), ("n", "m2-0", (row, (3, None))), ((), (), ()), (3, 3, 3),
            (None, None, None),
        ):
            self.assertIs(is_unsingle_paper(order, labels, bent), False, bent)

    def test_other_stretches_may_be_named(self):
        order, labels = full(2, 2), same(full(2, 2), 3)
        row = (3, 3)
        for paper in (("n", "m2-1", (row, row)), ("m1-0", "o", (row, row)), ("n", "o", ((3, 3, 3),) * 4)):
            self.assertIs(is_unsingle_paper(order, labels, paper), True)

    def test_none_and_lists_anywhere(self):
        order, labels = full(2, 2), same(full(2, 2), 3)
        low, high, rows = unsingle_stretch(order, labels)
        for paper in (None, [low, high, rows], (low, high, list(rows)), (low, high, (list(rows[0]), rows[1])),
                      (low, high, (rows[0], [3, 3])), ([low], high, rows), (low, [high], rows), ([], [], []), [],
                      ([[[low]]], [], None), (low, high, ([], [])), (low, high, [])):
            self.assertIs(is_unsingle_paper(order, labels, paper), False, paper)
        self.assertIs(is_unsingle_paper(diamond(), NO_RISE, ("w", "z", ())), True)
        self.assertIs(is_unsingle_paper(diamond(), NO_RISE, ("w", "z", [])), False)
        self.assertIs(is_unsingle_paper(one(), {}, ("x", "x", ())), False)

    def test_sixteen_and_seventeen_things(self):
        order = wide(16)
        self.assertEqual(unsingle_stretch(order, same(order)), ("n", "o", ((1, 1),) * 14))
        for order in (wide(17), widest(), full(5, 5, 5)):
            labels = same(order)
            for function in (unsingle_stretch, is_single, fall_counts):
                self.assert_error(errors.TooMany, ("things", 16), function, order, labels)
            for paper in (None, [], (), ("n", "o", ())):
                self.assert_error(errors.TooMany, ("things", 16), is_unsingle_paper, order, labels, paper)
            self.assert_error(errors.TooMany, ("things", 16), risen_chain, order, labels, [])
            for labels, error, values in faulty(order)[:9]:
                for function in (unsingle_stretch, is_single, fall_counts):
                    self.assert_error(error, values, function, order, labels)
                self.assert_error(error, values, is_unsingle_paper, order, labels, None)


class FallCounts(Asks, unittest.TestCase):
    """Point [84]."""

    def test_small_orders(self):
        for order, labels, due in (
            (two(), same(two()), Counts(0, {(): 1})), (diamond(), SINGLE, Counts(1, {(): 1, (1,): 1})),
            (diamond(), NO_RISE, Counts(1, {(1,): 2})), (diamond(), TWO_RISES, Counts(1, {(): 2})),
            (line(4), {("t0", "t1"): 2, ("t1", "t2"): 3, ("t2", "t3"): 1}, Counts(2, {(2,): 1})),
            (line(4), {("t0", "t1"): 3, ("t1", "t2"): 2, ("t2", "t3"): 1}, Counts(2, {(1, 2): 1})),
            (wide(16), same(wide(16)), Counts(1, {(): 14})),
        ):
            self.assertEqual(fall_counts(order, labels), due)
            self.assertEqual(fall_counts(order=order, labels=labels), due)

    def test_single_labellings(self):
        for order, labels in single_labellings():
            self.assertIs(is_single(order, labels), True)
            if order.height > 0:
                self.assertEqual(fall_counts(order, labels), betas_of_alphas(alphas(order)))

    def test_an_order_of_one_thing(self):
        for labels in ({}, {("x", "x"): 1}, {("q", "r"): 1}):
            self.assert_error(errors.TooLow, (0,), fall_counts, one(), labels)

    def test_moebius_numbers(self):
        for order, labels in single_labellings(264) + [(simplex(5), corner_labels(5))]:
            for low, high in stretches(order):
                length = order.rank(high) - order.rank(low)
                due = (-1) ** length * len(falling_chains(order, labels, low, high))
                self.assertEqual(mu(order, low, high), due)


class RisenChains(Asks, unittest.TestCase):
    """Point [85]."""

    def test_small_orders(self):
        for order, labels, things, due in (
            (two(), same(two()), [], ("a", "b")), (diamond(), SINGLE, [], ("w", "y", "z")),
            (diamond(), SINGLE, ["x"], ("w", "x", "z")), (diamond(), NO_RISE, [], None),
            (diamond(), TWO_RISES, [], None), (diamond(), NO_RISE, ["y"], ("w", "y", "z")),
            (diamond(), TWO_RISES, ["x"], ("w", "x", "z")),
            (full(2, 2), same(full(2, 2)), ["m1-0"], None), (full(2, 2), same(full(2, 2)), ["m2-0"], None),
            (full(2, 2), same(full(2, 2)), ["m1-1", "m2-0"], ("n", "m1-1", "m2-0", "o")),
        ):
            self.assertEqual(risen_chain(order, labels, things), due)
            self.assertEqual(risen_chain(order=order, labels=labels, things=tuple(things)), due)

    def test_pieces_with_no_or_two_rising_chains(self):
        order = full(1, 2, 1)
        labels = {("n", "m1-0"): 1, ("m1-0", "m2-0"): 2, ("m1-0", "m2-1"): 2, ("m2-0", "m3-0"): 3, ("m2-1", "m3-0"): 1,
                  ("m3-0", "o"): 5}
        whole = ("n", "m1-0", "m2-0", "m3-0", "o")
        self.assertEqual(risen_chain(order, labels, []), whole)
        self.assertEqual(risen_chain(order, labels, ["m1-0"]), whole)
        self.assertEqual(risen_chain(order, labels, ["m2-1"]), ("n", "m1-0", "m2-1", "m3-0", "o"))
        labels[("m2-1", "m3-0")] = 3
        for things in ([], ["m1-0"], ["m3-0"], ["m1-0", "m3-0"]):
            self.assertIsNone(risen_chain(order, labels, things))
        self.assertEqual(risen_chain(order, labels, ["m2-0"]), whole)
        labels[("m2-0", "m3-0")] = labels[("m2-1", "m3-0")] = 1
        for things in ([], ["m1-0"], ["m3-0"], ["m1-0", "m3-0"]):
            self.assertIsNone(risen_chain(order, labels, things))
        self.assertEqual(risen_chain(order, labels, ["m2-0"]), whole)

    def test_lists_that_are_no_chains(self):
        for things, low, high in ((["w"], "w", "w"), (["z"], "z", "z"), (["w", "x"], "w", "w"), (["x", "z"], "z", "z"),
                                  (["x", "y"], "x", "y"), (["x", "x"], "x", "x"), (["x", "w"], "x", "w"),
                                  (["z", "w"], "z", "w"), (["y", "z", "x"], "z", "x")):
            self.assert_error(errors.NotBelow, (low, high), risen_chain, diamond(), SINGLE, things)
        self.assert_error(errors.NotBelow, ("o", "o"), risen_chain, widest(), same(widest()), ["o"])

    def test_errors(self):
        self.assert_error(errors.UnknownName, ("q",), risen_chain, one(), {}, ["q"])
        for things in ([], ["x"], ["x", "x"]):
            self.assert_error(errors.TooLow, (0,), risen_chain, one(), {}, things)
            self.assert_error(errors.TooLow, (0,), risen_chain, one(), {("q", "r"): 1}, things)
        for things, name in ((["q"], "q"), (["w", "q", "r"], "q"), (["z", "w", "Q"], "Q")):
            self.assert_error(errors.UnknownName, (name,), risen_chain, diamond(), SINGLE, things)
            self.assert_error(errors.UnknownName, (name,), risen_chain, diamond(), {}, things)

    def test_chains_are_carried_onto_full_chains(self):
        for order, labels in single_labellings(265):
            if order.height == 0:
                continue
            every = full_chains(order, order.least, order.greatest)
            for ranks in rank_sets(order.weight):
                risen = [risen_chain(order, labels, things) for things in chains(order, ranks)]
                due = [chain for chain in every if set(falls(label_row(order, labels, chain))) <= set(ranks)]
                self.assertEqual(sorted(risen), sorted(due))


class FoundLabels(Asks, unittest.TestCase):
    """Point [86]: `find_labels`."""

    def assert_table(self, found, pairs):
        self.assertIs(found.__class__, dict)
        self.assertEqual(tuple(found.items()), pairs)

    def test_small_orders(self):
        self.assert_table(find_labels(one(), most=1), ())
        self.assert_table(find_labels(order=two(), most=1), ((("a", "b"), 1),))
        self.assert_table(find_labels(line(3), most=2), ((("t0", "t1"), 1), (("t1", "t2"), 1)))
        self.assert_table(find_labels(diamond(), most=2), (((W, Y), 1), ((W, X), 2), ((Y, Z), 1), ((X, Z), 1)))
        self.assertIsNone(find_labels(diamond(), most=1))
        self.assertIsNone(find_labels(wide(5), most=1))
        self.assert_table(find_labels(wide(5), most=2), (
            (("n", "m0"), 1), (("n", "m1"), 2), (("n", "m2"), 2), (("m0", "o"), 1), (("m1", "o"), 1), (("m2", "o"), 1)))

    def test_it_is_the_first_one(self):
        for order in random_orders(random.Random(266), 20) + [diamond(), wide(5)]:
            for most in (1, 2, 3, 4):
                if most ** len(order.covers) > 256:
                    continue
                due = None
                for row in itertools.product(range(1, most + 1), repeat=len(order.covers)):
                    labels = dict(zip(order.covers, row))
                    if due is None and is_single(order, labels):
                        due = labels
                self.assertEqual(find_labels(order, most=most), due)
                if due is not None:
                    self.assertEqual(tuple(find_labels(order, most=most)), order.covers)

    def test_none_to_be_found(self):
        # Each of the two paths has to rise on its two parts, but then both rise from end to end.
        order = Order(["n", "a", "b", "c", "d", "o"], [("n", "a"), ("n", "b"), ("a", "c"), ("b", "d"), ("c", "o"),
                                                       ("d", "o")])
        self.assertIsNone(find_labels(order, most=1))
        self.assertIsNone(find_labels(order, most=2))
        self.assertIsNone(find_labels(triangle(), most=1))

    def test_numbers_of_labels(self):
        for most in (0, -1, 10, 11, BIG, -BIG):
            for order in (one(), two(), widest(), wide(17)):
                self.assert_error(errors.InvalidSize, (most,), find_labels, order, most=most)
        self.assert_table(find_labels(two(), most=9), ((("a", "b"), 1),))
        self.assert_table(find_labels(one(), most=9), ())

    def test_exactly_256_and_more(self):
        self.assertEqual(len(find_labels(diamond(), most=4)), 4)
        self.assertEqual(find_labels(line(9), most=2), same(line(9)))
        self.assertEqual(find_labels(line(3), most=9), same(line(3)))
        self.assertEqual(find_labels(line(6), most=3), same(line(6)))
        for order, most in ((diamond(), 5), (line(10), 2), (line(4), 7), (line(7), 3), (wide(7), 2), (triangle(), 2),
                            (line(4), 9), (widest(), 2), (widest(), 9), (wide(17), 2), (full(19, 19), 9)):
            self.assert_error(errors.TooMany, ("labels", 256), find_labels, order, most=most)
        self.assertEqual(find_labels(line(4), most=6), same(line(4)))

    def test_more_than_sixteen_things(self):
        for order in (wide(17), widest(), full(5, 5, 5)):
            self.assert_error(errors.TooMany, ("things", 16), find_labels, order, most=1)
        self.assertIsNone(find_labels(wide(16), most=1))
        self.assertEqual(find_labels(line(10), most=1), same(line(10)))
        self.assertIsNone(find_labels(full(7, 7), most=1))


class MadeLabels(Asks, unittest.TestCase):
    """Point [86]: labellings of products, turned orders and simplices."""

    def test_products(self):
        found = product_labels(two(), {("a", "b"): 5}, two(), {("a", "b"): -3})
        self.assertEqual(tuple(found.items()), ((("x0-0", "x0-1"), -5), (("x0-0", "x1-0"), 10), (("x0-1", "x1-1"), 10),
                                                (("x1-0", "x1-1"), -5)))
        found = product_labels(left=diamond(), left_labels=SINGLE, right=two(), right_labels={("a", "b"): BIG})
        self.assertEqual(tuple(found), product(diamond(), two()).covers)
        self.assertEqual(found[("x0-0", "x1-0")], 2)
        self.assertEqual(found[("x2-1", "x3-1")], 2)
        self.assertEqual(found[("x0-1", "x2-1")], 4)
        self.assertEqual(found[("x3-0", "x3-1")], 2 * BIG + 1)
        self.assertEqual(product_labels(one(), {}, one(), {}), {})
        self.assertEqual(list(product_labels(one(), {}, two(), {("a", "b"): 1}).values()), [3])
        self.assertEqual(list(product_labels(two(), {("a", "b"): 1}, one(), {}).values()), [2])

    def test_products_in_the_sequence_of_the_covers(self):
        shuffled = dict(list(SINGLE.items())[::-1])
        self.assertEqual(tuple(product_labels(diamond(), shuffled, line(3), same(line(3))).items()),
                         tuple(product_labels(diamond(), SINGLE, line(3), same(line(3))).items()))

    def test_errors_of_products(self):
        fewer, turned_about = {(W, Y): 1}, {**{pair: 1 for pair in diamond().covers[1:]}, (Y, W): 1}
        other = {**{pair: 1 for pair in diamond().covers[1:]}, ("q", "r"): 1}
        big = wide(40)
        for left, first, right, second, error, values in (
            (diamond(), fewer, diamond(), SINGLE, errors.WrongCount, (4, 1)),
            (diamond(), SINGLE, diamond(), fewer, errors.WrongCount, (4, 1)),
            (diamond(), fewer, diamond(), {}, errors.WrongCount, (4, 1)),
            (diamond(), {}, diamond(), fewer, errors.WrongCount, (4, 0)),
            (diamond(), turned_about, diamond(), fewer, errors.WrongCount, (4, 1)),
            (diamond(), turned_about, two(), {}, errors.WrongCount, (1, 0)),
            (diamond(), turned_about, diamond(), other, errors.MissingCover, (Y, W)),
            (diamond(), other, diamond(), turned_about, errors.MissingCover, ("q", "r")),
            (diamond(), SINGLE, diamond(), turned_about, errors.MissingCover, (Y, W)),
            (big, same(big), diamond(), fewer, errors.WrongCount, (4, 1)),
            (big, same(big), diamond(), other, errors.MissingCover, ("q", "r")),
            (big, same(big), diamond(), SINGLE, errors.TooMany, ("things", 40)),
            (line(10), same(line(10)), two(), same(two()), errors.TooHigh, (10,)),
            (line(10), {}, line(10), {}, errors.WrongCount, (9, 0)),
            (one(), {("x", "x"): 1}, one(), {}, errors.WrongCount, (0, 1)),
        ):
            self.assert_error(error, values, product_labels, left, first, right, second)

    def test_turned_orders(self):
        found = turned_labels(diamond(), {(W, Y): 1, (W, X): -2, (Y, Z): 3, (X, Z): BIG})
        self.assertEqual(tuple(found.items()), (((Z, Y), -3), ((Z, X), -BIG), ((Y, W), -1), ((X, W), 2)))
        self.assertEqual(turned_labels(order=one(), labels={}), {})
        for order, labels in single_labellings(267)[:20]:
            found = turned_labels(order, labels)
            self.assertEqual(tuple(found), turned(order).covers)
            self.assertEqual(turned_labels(turned(order), found), labels)

    def test_single_labellings_stay_single(self):
        pairs = single_labellings(268)
        for order, labels in pairs:
            self.assertIs(is_single(turned(order), turned_labels(order, labels)), True)
        small = [(order, labels) for order, labels in pairs if order.size <= 4]
        for (left, first), (right, second) in itertools.product(small, repeat=2):
            found = product(left, right)
            labels = product_labels(left, first, right, second)
            self.assertIs(is_single(found, labels), True)

    def test_corners(self):
        self.assertEqual(corner_labels(0), {})
        self.assertEqual(tuple(corner_labels(size=1).items()), ((("f", "f0"), 0),))
        self.assertEqual(tuple(corner_labels(2).items()), ((("f", "f0"), 0), (("f", "f1"), 1), (("f0", "f0-1"), 1),
                                                           (("f1", "f0-1"), 0)))
        for size in range(6):
            found = corner_labels(size)
            self.assertEqual(tuple(found), simplex(size).covers)
            for (lower, upper), label in found.items():
                self.assertEqual(set(corners_of(upper)) - set(corners_of(lower)), {label})
            if size <= 4:
                self.assertIs(is_single(simplex(size), found), True)

    def test_corners_of_five(self):
        order, labels = simplex(5), corner_labels(5)
        for low, high in stretches(order):
            self.assertEqual(len(rising_chains(order, labels, low, high)), 1)
        self.assertEqual(answer(is_single, order, labels), ("error", "TooMany", ("things", 16)))

    def test_other_sizes(self):
        for size in (-1, -2, 6, 7, BIG, -BIG):
            self.assert_error(errors.InvalidSize, (size,), corner_labels, size)


if __name__ == "__main__":
    unittest.main()

"""The module evenodds.evencheck: point [20]."""

import itertools
import unittest

from evenodds import errors
from evenodds.evencheck import is_even, is_uneven_paper, parity_counts, uneven_stretch, uneven_stretches
from evenodds.orders import Order
from evenodds.stretches import stretches
from samples import Asks, crooked, diamond, full, line, one, triangle, two, wide


class Parities(Asks, unittest.TestCase):
    def test_ranks_are_those_in_the_order(self):
        order = line(6)
        self.assertEqual(parity_counts(order, "t0", "t2"), (2, 1))
        self.assertEqual(parity_counts(order, "t1", "t3"), (1, 2))
        self.assertEqual(parity_counts(order, "t1", "t5"), (2, 3))
        self.assertEqual(parity_counts(order, "t0", "t5"), (3, 3))
        self.assertEqual(parity_counts(order=order, low="t2", high="t4"), (2, 1))

    def test_equal_names(self):
        for order in (one(), diamond(), crooked(), line(10)):
            for name in order:
                due = (1, 0) if order.rank(name) in (0, 2, 4, 6, 8) else (0, 1)
                self.assertEqual(parity_counts(order, name, name), due)

    def test_whole_orders(self):
        self.assertEqual(parity_counts(diamond(), "w", "z"), (2, 2))
        self.assertEqual(parity_counts(crooked(), "bot", "top"), (4, 4))
        self.assertEqual(parity_counts(wide(40), "n", "o"), (2, 38))
        self.assertEqual(parity_counts(full(1, 5), "n", "o"), (6, 2))

    def test_only_the_things_of_the_stretch_count(self):
        self.assertEqual(parity_counts(crooked(), "bot", "j"), (2, 1))
        self.assertEqual(parity_counts(crooked(), "b", "top"), (2, 2))
        self.assertEqual(parity_counts(crooked(), "c", "top"), (1, 2))

    def test_errors(self):
        for low, high, name in (("q", "z", "q"), ("w", "q", "q"), ("r", "q", "r"), ("q", "r", "q"), ("q", "q", "q")):
            self.assert_error(errors.UnknownName, (name,), parity_counts, diamond(), low, high)
        for low, high in (("x", "y"), ("z", "w"), ("y", "w")):
            self.assert_error(errors.NotBelow, (low, high), parity_counts, diamond(), low, high)


class Uneven(unittest.TestCase):
    def test_even_orders(self):
        for order in (one(), two(), diamond(), triangle(), full(2, 2), full(2, 2, 2, 2, 2, 2, 2, 2)):
            self.assertIsNone(uneven_stretch(order))
            self.assertEqual(uneven_stretches(order), ())
            self.assertIs(is_even(order), True)

    def test_uneven_orders(self):
        for order in (line(3), line(10), crooked(), wide(5), wide(40), full(1, 2), full(2, 3, 2)):
            self.assertIs(is_even(order), False)
            self.assertEqual(uneven_stretch(order), uneven_stretches(order)[0])
            length = order.rank(uneven_stretch(order)[1]) - order.rank(uneven_stretch(order)[0])
            self.assertIn(length, (2, 4, 6, 8))
        self.assertIs(is_even(order=line(3)), False)

    def test_papers(self):
        self.assertEqual(uneven_stretch(order=line(3)), ("t0", "t2", 2, 1))
        self.assertEqual(uneven_stretches(order=line(3)), (("t0", "t2", 2, 1),))
        self.assertEqual(uneven_stretch(wide(5)), ("n", "o", 2, 3))
        self.assertEqual(uneven_stretch(crooked()), ("bot", "j", 2, 1))
        self.assertEqual(uneven_stretches(crooked()), (("bot", "j", 2, 1), ("c", "top", 1, 2)))

    def test_papers_of_a_line(self):
        due = [(f"t{k}", f"t{k + length}", length // 2 + (k % 2 == 0), length // 2 + (k % 2 == 1))
               for length in (2, 4) for k in range(6 - length)]
        self.assertEqual(uneven_stretch(line(6)), due[0])
        self.assertEqual(uneven_stretches(line(6)), tuple(due))

    def test_by_length_and_then_by_place(self):
        # All stretches that begin with n are even, but for the longest one.
        names = ["n", "a", "b", "c", "d", "e", "o"]
        covers = [("n", "a"), ("n", "b"), ("a", "c"), ("b", "c"), ("a", "d"), ("b", "d"), ("c", "e"), ("d", "e")]
        order = Order(names, covers + [("e", "o")])
        self.assertEqual(uneven_stretch(order), ("c", "o", 2, 1))
        papers = (("c", "o", 2, 1), ("d", "o", 2, 1), ("a", "o", 3, 2), ("b", "o", 3, 2), ("n", "o", 4, 3))
        self.assertEqual(uneven_stretches(order), papers)

    def test_the_place_decides_among_equal_lengths(self):
        names = ["n", "b", "a", "c", "o", "top"]
        covers = [("n", "a"), ("n", "b"), ("n", "c"), ("a", "o"), ("b", "o"), ("c", "o"), ("o", "top")]
        order = Order(names, covers)
        papers = (("n", "o", 2, 3), ("b", "top", 1, 2), ("a", "top", 1, 2), ("c", "top", 1, 2), ("n", "top", 2, 4))
        self.assertEqual(uneven_stretches(order), papers)

    def test_a_stretch_of_odd_length_may_be_uneven_but_is_not_the_first(self):
        order = full(1, 5)
        self.assertEqual(uneven_stretch(order), ("n", "m2-0", 2, 1))
        self.assertEqual(uneven_stretches(order)[-1], ("n", "o", 6, 2))


class Papers(unittest.TestCase):
    def assert_no_paper(self, order, *values):
        for value in values:
            self.assertIs(is_uneven_paper(order, value), False, value)

    def test_true_papers(self):
        for order in (line(3), line(10), crooked(), wide(5), full(1, 5)):
            for paper in uneven_stretches(order):
                self.assertIs(is_uneven_paper(order, paper), True)
                self.assertIs(is_uneven_paper(order=order, paper=tuple(list(paper))), True)
        self.assertIs(is_uneven_paper(crooked(), ("c", "top", 1, 2)), True)

    def test_papers_of_other_stretches(self):
        order = crooked()
        self.assert_no_paper(order, ("bot", "j", 1, 2), ("c", "top", 2, 1), ("bot", "top", 4, 4), ("b", "k", 1, 1),
                             ("bot", "k", 2, 1), ("bot", "top", 2, 1), ("bot", "j", 4, 2), ("bot", "j", 3, 2),
                             ("bot", "j", 2, 0), ("bot", "j", 2, 2), ("bot", "j", -2, -1), ("bot", "b", 1, 1))
        self.assert_no_paper(diamond(), ("w", "z", 2, 2), ("w", "z", 2, 1), ("w", "y", 1, 1), ("w", "y", 1, 0))

    def test_things_that_are_not_below(self):
        self.assert_no_paper(crooked(), ("j", "bot", 2, 1), ("c", "k", 0, 1), ("c", "k", 0, 0), ("top", "c", 1, 2))
        # A thing alone has unlike numbers, but its stretch has length 0.
        self.assert_no_paper(crooked(), ("bot", "bot", 1, 0), ("b", "b", 0, 1), ("top", "top", 0, 1))
        self.assert_no_paper(one(), ("x", "x", 1, 0), ("x", "x", 0, 1), ())

    def test_unknown_names(self):
        self.assert_no_paper(crooked(), ("q", "j", 2, 1), ("bot", "q", 2, 1), ("q", "q", 2, 1), ("", "", 0, 0),
                             ("q", "r", 0, 1), ("B\n", "j", 2, 1))

    def test_other_lengths_and_kinds(self):
        for order in (crooked(), one()):
            self.assert_no_paper(order, None, [], ["bot", "j", 2, 1], (), ("bot",), ("bot", "j"), ("bot", "j", 2),
                                 ("bot", "j", 2, 1, 0), ("bot", "j", 2, 1, None), (("bot", "j", 2, 1),),
                                 (("bot", "j"), (2, 1)), ["bot", "j", "2", "1"], [None], [()])

    def test_other_items(self):
        self.assert_no_paper(
            crooked(), (0, 4, 2, 1), (0, "j", 2, 1), ("bot", 4, 2, 1), (None, "j", 2, 1), ("bot", None, 2, 1),
            (None, None, None, None), ((), (), (), ()), (("bot",), "j", 2, 1), ("bot", ("j",), 2, 1),
            ("bot", "j", "2", "1"), ("bot", "j", None, 1), ("bot", "j", 2, None), ("bot", "j", (2,), 1),
            ("bot", "j", (2, 1), ()), ("bot", "j", 10 ** 59, 1), ("bot", "j", 2, -10 ** 59), (2, 1, "bot", "j"),
            ("bot", "j", "j", "bot"), (("bot", "j", 2, 1),) * 4,
        )
        deep = ()
        for _ in range(18):
            deep = (deep, 1, None, "bot")
        self.assert_no_paper(crooked(), deep, (deep, "j", 2, 1), ("bot", deep, 2, 1), ("bot", "j", deep, 1))

    def test_a_paper_of_another_order(self):
        self.assert_no_paper(line(4), ("t0", "t2", 3, 1), ("t1", "t3", 2, 1))
        self.assertIs(is_uneven_paper(line(4), ("t1", "t3", 1, 2)), True)
        self.assertIs(is_uneven_paper(line(3), ("t0", "t2", 2, 1)), True)

    def test_exactly_the_papers_that_are_found(self):
        for order in (crooked(), line(4), diamond(), full(1, 2)):
            papers = uneven_stretches(order)
            self.assertEqual([paper for paper in itertools.product(order.names, order.names, range(6), range(6))
                              if is_uneven_paper(order, paper)], sorted(papers, key=self.by_place(order)))
            ends = [paper[:2] for paper in papers]
            self.assertEqual(ends, [pair for pair in stretches(order) if pair in ends])

    def by_place(self, order):
        return lambda paper: (order.place(paper[0]), order.place(paper[1]))


if __name__ == "__main__":
    unittest.main()

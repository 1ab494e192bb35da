"""The module evenodds.papers: points [70] and [71]."""

import random
import unittest

from evenodds import errors
from evenodds.absum import stretch_sum
from evenodds.cdread import cd_sum
from evenodds.cdwords import spread
from evenodds.evencheck import is_even, uneven_stretch, uneven_stretches
from evenodds.faces import cube, polygon
from evenodds.papers import full_paper, is_full_paper, is_verdict, verdict
from evenodds.stretches import stretches
from evenodds.words import WordSum
from samples import (
    BIG,
    Asks,
    beside,
    crooked,
    diamond,
    full,
    line,
    one,
    random_orders,
    skew,
    triangle,
    two,
    wide,
    widest,
)
from told_samples import even_orders

# Nested values that are no papers of any order.
OTHER_VALUES = (
    None, (), [], ((),), ([],), (None,), ("",), ("even",), ("uneven",), ("even", ((),)), ("even", None), ("even", "c"),
    ("even", 1), ("even", ("c", 1)), ("even", (("c",),)), ("even", (("c", 1, 1),)), ("Even", ()), ("even", (), ()),
    ("odd", ()), (("even",), ()), (1, ()), (None, ()), ("uneven", "w"), ("uneven", "w", "z"), ("uneven", "w", "z", 2),
    ("uneven", "w", "z", 2, 2, 2), ("uneven", ("w", "z", 2, 1)), ("uneven", None, None, None, None),
    ("uneven", (), (), (), ()), ("uneven", 0, 1, 2, 3), ("uneven", "", "", 0, 1), ((((((((),),),),),),),),
    ([], [[]], ["even"]), (["even"], []), ("even\n", ()), (("even", ()),), (0, 0, 0, 0, 0),
)


class Verdicts(Asks, unittest.TestCase):
    """Point [70]."""

    def test_even_orders(self):
        for order, terms in ((two(), (("", 1),)), (diamond(), (("c", 1),)), (triangle(), (("cc", 1), ("d", 1))),
                             (full(2, 2), (("cc", 1),)), (polygon(7), (("cc", 1), ("d", 5)))):
            self.assertEqual(verdict(order), ("even", terms))
            self.assertEqual(verdict(order=order), ("even", terms))
        for order in even_orders() + [full(2, 2, 2, 2, 2, 2, 2, 2), polygon(19)]:
            self.assertEqual(verdict(order), ("even", cd_sum(order).terms))
            self.assertIs(is_verdict(order, verdict(order)), True)

    def test_an_order_of_one_thing(self):
        self.assertEqual(verdict(one()), ("even", ()))
        self.assertIs(is_verdict(one(), ("even", ())), True)
        self.assertIs(is_verdict(one(), ("even", (("", 1),))), False)
        self.assertIs(is_verdict(two(), ("even", ())), False)

    def test_uneven_orders(self):
        self.assertEqual(verdict(line(3)), ("uneven", "t0", "t2", 2, 1))
        self.assertEqual(verdict(wide(40)), ("uneven", "n", "o", 2, 38))
        # The letter sum of this one is readable.
        self.assertEqual(verdict(skew()), ("uneven", "bot", "k", 2, 3))
        for order in random_orders(random.Random(281), 40) + [crooked(), beside(), widest()]:
            if not is_even(order):
                self.assertEqual(verdict(order), ("uneven",) + uneven_stretch(order))

    def test_any_uneven_stretch_may_be_named(self):
        for order in random_orders(random.Random(282), 30) + [crooked(), beside(), wide(40), widest(), line(10)]:
            papers = [("uneven",) + paper for paper in uneven_stretches(order)]
            self.assertEqual(bool(papers), not is_even(order))
            for paper in papers[:12]:
                self.assertIs(is_verdict(order, paper), True)
                self.assertIs(is_verdict(order=order, paper=paper), True)
                label, low, high, evens, odds = paper
                for bent in ((label, high, low, evens, odds), (label, low, high, odds, evens),
                             (label, low, high, evens),
                             (label, low, high, evens + 1, odds), (label, low, high, evens, odds - 1), paper[1:],
                             (label, low, low, evens, odds), (label, "q", high, evens, odds), paper + (0,),
                             (label, low, "q", evens, odds), ("even", low, high, evens, odds), (label, paper[1:]),
                             (label, low, high, str(evens), odds), (label, low, high, evens, None), list(paper),
                             (label, [low], high, evens, odds), (label, low, [high], evens, odds),
                             (label, low, high, [evens], odds), (label, low, high, evens, [odds]),
                             ([label], low, high, evens, odds), (label, low, high, (evens,), odds)):
                    self.assertIs(is_verdict(order, bent), False, bent)

    def test_bent_papers_of_even_orders(self):
        for order in even_orders()[1:]:
            label, terms = verdict(order)
            (word, number), rest = terms[0], terms[1:]
            for bent in ((label, terms[1:]), (label, terms + ((word, number),)), (label, ((word, number + 1),) + rest),
                         (label, ((word, -number),) + rest), (label, ((word + "c", number),) + rest), ("uneven", terms),
                         (label, ((word, str(number)),) + rest), (label, (("ab", number),) + rest), (label, None),
                         (label,),
                         (label, ((number, word),) + rest), (label, terms + (("d" * 5, 0),)), (label, terms, ()), terms,
                         (label, ()), (label, list(terms)), [label, terms], (label, ([word, number],) + rest),
                         (label, ((word, [number]),) + rest), (label, (([word], number),) + rest), (label, (terms,)),
                         (label, ((word, number), None)), (label, terms[::-1] + terms[:1]), ((label, terms),)):
                self.assertIs(is_verdict(order, bent), False, bent)
            self.assertIs(is_verdict(order, ("uneven", order.least, order.greatest, 2, 1)), False)

    def test_papers_of_other_orders(self):
        orders = even_orders() + [one(), crooked(), skew(), line(3), line(4), wide(7)]
        for order in orders:
            for other in orders:
                paper = verdict(other)
                due = paper == verdict(order) or paper[1:] in uneven_stretches(order)
                self.assertIs(is_verdict(order, paper), due)
        # The c-d sum of an uneven order is none of its papers.
        self.assertIs(is_verdict(skew(), ("even", cd_sum(skew()).terms)), False)
        self.assertIs(is_verdict(triangle(), ("even", cd_sum(skew()).terms)), True)

    def test_other_values(self):
        for order in (one(), two(), diamond(), line(3), crooked(), widest()):
            for value in OTHER_VALUES:
                self.assertIs(is_verdict(order, value), False, value)


class FullPapers(Asks, unittest.TestCase):
    """Point [71]."""

    def test_small_orders(self):
        self.assertEqual(full_paper(one()), ())
        self.assertEqual(full_paper(two()), (("a", "b", (("", 1),)),))
        unit = (("", 1),)
        self.assertEqual(full_paper(order=diamond()), (
            ("w", "y", unit), ("w", "x", unit), ("y", "z", unit), ("x", "z", unit), ("w", "z", (("c", 1),))))

    def test_the_stretches_and_their_sums(self):
        for order in even_orders() + [full(2, 2, 2, 2, 2, 2, 2), polygon(7), cube(2)]:
            if order.size <= 16:
                paper = full_paper(order)
                self.assertEqual(tuple((low, high) for low, high, _ in paper), stretches(order))
                for low, high, terms in paper:
                    length = order.rank(high) - order.rank(low)
                    self.assertEqual(spread(WordSum("cd", length - 1, terms)), stretch_sum(order, low, high))
                self.assertIs(is_full_paper(order, paper), True)
                self.assertIs(is_full_paper(order=order, paper=paper), True)

    def test_uneven_orders(self):
        for order in random_orders(random.Random(283), 40) + [crooked(), skew(), beside(), line(3), wide(16)]:
            if not is_even(order):
                self.assert_error(errors.Uneven, uneven_stretch(order), full_paper, order)
                for paper in ((), None, [], full_paper(diamond()), ((order.least, order.greatest, ()),)):
                    self.assertIs(is_full_paper(order, paper), False)
        # The paper of an even order with the same things does not help an uneven one.
        order = skew()
        paper = tuple((low, high, (("c" * (order.rank(high) - order.rank(low) - 1), 1),))
                      for low, high in stretches(order))
        self.assertIs(is_full_paper(order, paper), False)

    def test_sixteen_and_seventeen_things(self):
        self.assertEqual(len(full_paper(full(2, 2, 2, 2, 2, 2, 2))), 28 + 24 * 3 + 12 + 1)
        for order in (wide(17), widest(), full(2, 2, 2, 2, 2, 2, 3), polygon(19), full(2, 2, 2, 2, 2, 2, 2, 2)):
            self.assert_error(errors.TooMany, ("things", 16), full_paper, order)
            for paper in (None, (), [], ((order.least, order.greatest, ()),), 5):
                self.assert_error(errors.TooMany, ("things", 16), is_full_paper, order, paper)

    def bent(self, paper, at, entry):
        return paper[:at] + (entry,) + paper[at + 1:]

    def test_papers_bent_in_each_place(self):
        for order in (diamond(), triangle(), full(2, 2), polygon(4)):
            paper = full_paper(order)
            for at, (low, high, terms) in enumerate(paper):
                (word, number), rest = terms[0], terms[1:]
                for entry in (
                    (high, low, terms), (low, low, terms), ("q", high, terms), (low, "q", terms), (low, high, ()),
                    (low, high, terms + terms), (low, high, terms, ()), (low, high), (low,), (), None, low, 3,
                    (low, high, ((word, number + 1),) + rest), (low, high, ((word, 0),) + rest), (low, high, word),
                    (low, high, ((word, -number),) + rest), (low, high, (("d" * 5, 0),) + terms), (low, high, None),
                    (low, high, terms + (("z", 0),)), (low, high, ((word + "c", number),) + rest), (low, high, number),
                    (low, high, ((word, number, 1),) + rest), (low, high, ((word,),) + rest),
                    (low, high, (word, number)),
                    (low, high, ((number, word),) + rest), (low, high, ((word, None),) + rest),
                    (low, high, ((word, number - 1), (word, 1)) + rest), (low, high, ((None, number),) + rest),
                    (low, high, ((word, BIG),) + rest), (low, high, (("ab", 1),)), (None, high, terms), (low, 1, terms),
                    ((low,), high, terms), (low, high, (terms,)), (low, high, ((word, (number,)),) + rest),
                    [low, high, terms], (low, high, list(terms)), (low, high, ([word, number],) + rest),
                    ([low], high, terms), (low, [high], terms), (low, high, ((word, [number]),) + rest),
                    (low, high, (([word], number),) + rest), [], (low, high, []),
                ):
                    self.assertIs(is_full_paper(order, self.bent(paper, at, entry)), False, entry)
                if len(terms) > 1:
                    self.assertIs(is_full_paper(order, self.bent(paper, at, (low, high, terms[::-1]))), False)
                self.assertIs(is_full_paper(order, paper[:at] + paper[at + 1:]), False)
                self.assertIs(is_full_paper(order, paper[:at] + paper[at:at + 1] + paper[at:]), False)

    def test_the_stretches_in_another_sequence(self):
        for order in (diamond(), triangle()):
            paper = full_paper(order)
            for at in range(len(paper) - 1):
                exchanged = paper[:at] + (paper[at + 1], paper[at]) + paper[at + 2:]
                self.assertIs(is_full_paper(order, exchanged), False)
            self.assertIs(is_full_paper(order, paper[::-1]), False)

    def test_papers_of_other_orders(self):
        orders = [order for order in even_orders() if order.size <= 16] + [one(), crooked(), skew(), line(3)]
        papers = [full_paper(order) for order in orders if is_even(order)]
        for order in orders:
            for paper in papers:
                self.assertIs(is_full_paper(order, paper), is_even(order) and paper == full_paper(order))
        self.assertIs(is_full_paper(one(), ()), True)
        self.assertIs(is_full_paper(two(), ()), False)

    def test_other_values(self):
        for order in (one(), two(), diamond(), triangle(), crooked()):
            for value in OTHER_VALUES:
                self.assertIs(is_full_paper(order, value), order == one() and value == (), value)
            self.assertIs(is_full_paper(order, list(full_paper(diamond()))), False)


if __name__ == "__main__":
    unittest.main()

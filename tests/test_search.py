"""The program and the second telling of the document in plain.py agree on many small arguments."""

import itertools
import random
import unittest

from evenodds.edits import apply_edit, apply_edits, inverse_edit
from evenodds.orders import Order
from evenodds.relations import is_alike, is_matching, order_from_relations, relations
from plain import closure, edit_answer, longest, order_answer, relation_answer
from samples import all_edits, answer, diamond, line, one, random_lists, triangle, two


def subsets(items):
    for count in range(len(items) + 1):
        yield from itertools.combinations(items, count)


class Orders(unittest.TestCase):
    def test_all_pairs_of_up_to_three_names(self):
        good = 0
        for names in ([], ["a"], ["b", "a"], ["b", "c", "a"]):
            pairs = [(x, y) for x in names for y in names]
            for covers in subsets(pairs):
                for told in (covers, covers[::-1]):
                    due = order_answer(names, told)
                    self.assertEqual(answer(Order, names, told), due, (names, told))
                    self.assertEqual(answer(order_from_relations, names, told), relation_answer(names, told))
                    good += due[0] == "order"
        self.assertGreater(good, 10)

    def test_all_pairs_of_four_names(self):
        names = ["c", "a", "d", "b"]
        pairs = [(x, y) for x in names for y in names if x != y]
        for covers in subsets(pairs):
            self.assertEqual(answer(Order, names, covers), order_answer(names, covers), covers)
            self.assertEqual(answer(order_from_relations, names, covers), relation_answer(names, covers), covers)

    def test_lists_with_wrong_names(self):
        for names in itertools.product(["a", "b", "B", ""], repeat=3):
            for covers in ((), (("a", "b"),), (("q", "a"), ("a", "q")), (("a", "b"), ("b", "a"), ("a", "b"))):
                self.assertEqual(answer(Order, names, covers), order_answer(names, covers), (names, covers))
                self.assertEqual(answer(order_from_relations, names, covers), relation_answer(names, covers))

    def test_larger_orders(self):
        source = random.Random(7)
        good = 0
        for _ in range(1500):
            names, covers = random_lists(source)
            due = order_answer(names, covers)
            self.assertEqual(answer(Order, names, covers), due, (names, covers))
            self.assertEqual(answer(order_from_relations, names, covers), relation_answer(names, covers))
            if due[0] == "order":
                good += 1
                self.check_methods(Order(names, covers))
        self.assertGreater(good, 300)

    def check_methods(self, order):
        below = closure(order.names, order.covers)
        self.assertEqual(set(relations(order)), below)
        places = [(order.place(low), order.place(high)) for low, high in relations(order)]
        self.assertEqual(places, sorted(places))
        for name in order:
            self.assertEqual(order.rank(name), longest(order.covers, name))
            self.assertEqual(order.lowers(name), tuple(x for x in order.names if (x, name) in order.covers))
            self.assertEqual(order.uppers(name), tuple(x for x in order.names if (name, x) in order.covers))
            for other in order:
                self.assertIs(order.is_below(name, other), (name, other) in below)


class Edits(unittest.TestCase):
    def test_all_edits_of_small_orders(self):
        good = 0
        for order in (one(), two(), line(3), diamond(), triangle()):
            for edit in all_edits(order):
                due = edit_answer(order.names, order.covers, edit)
                self.assertEqual(answer(apply_edit, order, edit), due, (order.names, edit))
                self.assertEqual(answer(apply_edits, order, [list(edit)]), due)
                if due[0] == "error":
                    self.assertEqual(answer(inverse_edit, order, edit), due)
                else:
                    good += 1
                    back = apply_edit(apply_edit(order, edit), inverse_edit(order, edit))
                    self.assertIs(is_alike(back, order), True)
        self.assertGreater(good, 50)


class Matchings(unittest.TestCase):
    def test_all_ways_to_pair_two_orders(self):
        names = ["n", "a", "b", "c", "d", "o"]
        outer = [("n", "a"), ("n", "b"), ("c", "o"), ("d", "o")]
        inner = [("a", "c"), ("a", "d"), ("b", "c"), ("b", "d")]
        orders = [Order(names, outer + list(some)) for some in subsets(inner)
                  if answer(Order, names, outer + list(some))[0] == "order"]
        self.assertGreater(len(orders), 5)
        for first, second in itertools.product(orders, repeat=2):
            for middle in itertools.permutations(names[1:5]):
                pairs = list(zip(names, ["n", *middle, "o"]))
                image = dict(pairs)
                due = {(image[x], image[y]) for x, y in first.covers} == set(second.covers)
                self.assertIs(is_matching(first, second, pairs), due)


if __name__ == "__main__":
    unittest.main()

"""The module evenodds.crossing: points [67] to [69]."""

import itertools
import random
import unittest

from evenodds import errors
from evenodds.crossing import border, closure_below, crossing, crossing_ends, is_closed
from evenodds.evencheck import is_even
from evenodds.faces import cube, polygon
from evenodds.orders import Order
from evenodds.products import turned
from evenodds.relations import is_matching, renamed
from samples import Asks, crooked, diamond, full, line, one, random_orders, triangle, two, wide, widest
from told_samples import even_orders

TEXT = "a" * 20000


def closed_lists(order):
    """All closed lists of an order of few things, as tuples by place, without the empty one and that of all."""
    found = []
    for many in range(1, order.size):
        for some in itertools.combinations(order.names, many):
            if all(low in some for high in some for low in order.names if order.is_below(low, high)):
                found.append(some)
    return found


class Closed(Asks, unittest.TestCase):
    """Point [67]."""

    def test_closed_lists(self):
        for things in ([], ["w"], ["w", "x"], ["x", "w", "x", "w"], ["y", "x", "w"], ["z", "y", "x", "w"]):
            self.assertIs(is_closed(diamond(), things), True)
            self.assertIs(is_closed(order=diamond(), things=tuple(things)), True)
        for things in (["x"], ["y", "x"], ["z"], ["w", "z"], ["w", "x", "z"], ["w", "z", "y"]):
            self.assertIs(is_closed(diamond(), things), False)
        self.assertIs(is_closed(one(), ["x"]), True)
        self.assertIs(is_closed(one(), []), True)

    def test_unknown_names(self):
        for things in (["q"], ["w", "q"], ["q", "w"], ["w", ""], ["w", "W"], ["w", TEXT], ["w\n"], ["x", "q"]):
            self.assertIs(is_closed(diamond(), things), False)

    def test_not_only_covers_count(self):
        self.assertIs(is_closed(line(4), ["t0", "t2"]), False)
        self.assertIs(is_closed(line(4), ["t1", "t2"]), False)
        self.assertIs(is_closed(line(4), ["t2", "t1", "t0"]), True)

    def test_closures(self):
        for things, due in (([], ()), (["w"], ("w",)), (["x"], ("w", "x")), (["x", "y"], ("w", "y", "x")),
                            (["z"], ("w", "y", "x", "z")), (["y", "w", "y"], ("w", "y"))):
            self.assertEqual(closure_below(diamond(), things), due)
            self.assertEqual(closure_below(order=diamond(), things=tuple(things)), due)
        self.assertEqual(closure_below(crooked(), ["j", "c"]), ("bot", "b", "c", "j"))
        self.assertEqual(closure_below(one(), ["x"] * 1000), ("x",))
        self.assertEqual(closure_below(widest(), [widest().greatest]), widest().names)

    def test_a_closure_is_the_least_closed_list(self):
        for order in random_orders(random.Random(241), 20):
            for some in itertools.combinations(order.names, 2):
                found = closure_below(order, some)
                self.assertIs(is_closed(order, found), True)
                self.assertEqual(found, tuple(name for name in order if any(order.is_at_most(name, x) for x in some)))

    def test_unknown_names_of_closures(self):
        for things, name in ((["q"], "q"), (["w", "q", "r"], "q"), (["r", "q", "w"], "r"), (["w", TEXT], TEXT),
                             (["W"], "W"), (["w", ""], "")):
            self.assert_error(errors.UnknownName, (name,), closure_below, diamond(), things)


class Crossings(Asks, unittest.TestCase):
    """Point [68]."""

    def test_small_orders(self):
        self.assert_same_order(crossing(two(), ["a"]), ("s0-1", "top"), (("s0-1", "top"),))
        self.assert_same_order(crossing(order=diamond(), closed=["w"]), ("s0-3", "s0-1", "s0-2", "top"), (
            ("s0-3", "s0-1"), ("s0-3", "s0-2"), ("s0-1", "top"), ("s0-2", "top")))
        self.assert_same_order(crossing(diamond(), ["x", "w"]), ("s0-3", "s0-1", "s2-3", "top"), (
            ("s0-3", "s0-1"), ("s0-3", "s2-3"), ("s0-1", "top"), ("s2-3", "top")))
        self.assert_same_order(crossing(line(4), ["t0", "t1"]), ("s0-3", "s0-2", "s1-3", "s1-2", "top"), (
            ("s0-3", "s0-2"), ("s0-3", "s1-3"), ("s0-2", "s1-2"), ("s1-3", "s1-2"), ("s1-2", "top")))

    def test_ranks_and_the_relation(self):
        for order in random_orders(random.Random(242), 12) + [crooked(), full(2, 1, 2), line(6)]:
            for closed in closed_lists(order)[::3]:
                found = crossing(order, closed)
                self.assertEqual((found.height, found.greatest), (order.height, "top"))
                self.assertEqual(found.least, f"s0-{order.size - 1}")
                ends = crossing_ends(order, closed)
                for name, x, y in ends:
                    self.assertEqual(found.rank(name), order.rank(x) + order.height - order.rank(y))
                    for other, v, w in ends:
                        due = order.is_at_most(x, v) and order.is_at_most(w, y)
                        self.assertIs(found.is_at_most(name, other), due)

    def test_given_sequence(self):
        found = crossing(full(2, 2), ["n", "m1-1", "m1-0"])
        self.assertEqual(found.names, ("s0-5", "s0-3", "s0-4", "s1-5", "s2-5", "s1-3", "s1-4", "s2-3", "s2-4", "top"))
        # Places of two digits are numbers, not texts.
        found = crossing(wide(14), [name for name in wide(14) if name != "o"])
        self.assertEqual(found.names, ("s0-13",) + tuple(f"s{k}-13" for k in range(1, 13)) + ("top",))

    def test_any_sequence_and_repeats(self):
        closed = ["bot", "b", "a", "c", "k"]
        due = crossing(crooked(), closed)
        source = random.Random(243)
        for _ in range(20):
            some = closed + source.choices(closed, k=source.randint(0, 5))
            source.shuffle(some)
            for told in (some, tuple(some)):
                self.assertEqual(crossing(crooked(), told), due)
                self.assertEqual(crossing_ends(crooked(), told), crossing_ends(crooked(), closed))
                self.assertEqual(border(crooked(), told), border(crooked(), closed))
        self.assertEqual(crossing(crooked(), closed * 200), due)

    def test_names_do_not_depend_on_names(self):
        other = renamed(crooked(), ["top", "s0-1", "s0-2", "c", "k", "j", "x", "bot"])
        self.assertEqual(crossing(other, ["top", "s0-1"]), crossing(crooked(), ["bot", "b"]))

    def test_forty_and_forty_one_things(self):
        self.assertEqual(crossing(wide(40), ["n"]).size, 40)
        inner = [name for name in wide(40) if name != "o"]
        self.assertEqual(crossing(wide(40), inner).size, 40)
        # Each thing between the two ends gives one stretch, on whichever side it stands.
        self.assertEqual(crossing(wide(40), inner[:20]).size, 40)
        self.assertEqual(crossing(full(9, 2), closure_below(full(9, 2), full(9, 2).at_rank(1))).size, 31)
        for sizes, count in (((5, 5), 37), ((6, 5), 43), ((12, 2), 40), ((2, 12), 40), ((5, 6), 43)):
            order = full(*sizes)
            closed = closure_below(order, order.at_rank(1))
            if count <= 40:
                self.assertEqual(crossing(order, closed).size, count)
                self.assertEqual(len(crossing_ends(order, closed)), count - 1)
            else:
                self.assert_error(errors.TooMany, ("things", 40), crossing, order, closed)
                self.assert_error(errors.TooMany, ("things", 40), crossing_ends, order, closed)
                self.assertEqual(len(border(order, closed)), sizes[0] * sizes[1])

    def test_exactly_one_more(self):
        # One cover less makes one crossing stretch less.
        order = full(13, 2)
        closed = closure_below(order, order.at_rank(1))
        self.assert_error(errors.TooMany, ("things", 40), crossing, order, closed)
        for lost in (("m1-0", "m2-0"), ("m1-0", "m2-1")):
            some = Order(order.names, [pair for pair in order.covers if pair != lost])
            self.assert_error(errors.TooMany, ("things", 40), crossing, some, closed)
        covers = [pair for pair in order.covers if pair not in (("m1-0", "m2-0"), ("m1-1", "m2-0"))]
        self.assert_error(errors.TooMany, ("things", 40), crossing, Order(order.names, covers), closed)
        covers.remove(("m1-2", "m2-1"))
        self.assertEqual(crossing(Order(order.names, covers), closed).size, 40)

    def assert_refused(self, error, values, order, closed):
        for function in (crossing, crossing_ends, border):
            self.assert_error(error, values, function, order, closed)
            self.assert_error(error, values, function, order, tuple(closed))

    def test_unknown_names_go_first(self):
        for closed, name in ((["q"], "q"), (["z", "q", "r"], "q"), (["x", TEXT], TEXT), (["w", "W"], "W"),
                             (["w", "x", "y", "z", "q"], "q"), (["q", "x"], "q"), ([""], "")):
            self.assert_refused(errors.UnknownName, (name,), diamond(), closed)

    def test_lists_that_are_not_closed(self):
        for closed, high, low in (
            (["x"], "x", "w"), (["z"], "z", "w"), (["w", "z"], "z", "y"), (["w", "z", "y"], "z", "x"),
            (["y", "x"], "y", "w"), (["x", "z", "y"], "x", "w"), (["w", "x", "z"], "z", "y"), (["z", "x"], "z", "w"),
        ):
            self.assert_refused(errors.NotClosed, (high, low), diamond(), closed)
        # Any thing below counts, and the one of the smallest place is told.
        self.assert_refused(errors.NotClosed, ("t3", "t0"), line(5), ["t3", "t1", "t2"])
        self.assert_refused(errors.NotClosed, ("t3", "t1"), line(5), ["t3", "t0"])
        self.assert_refused(errors.NotClosed, ("t4", "t3"), line(5), ["t0", "t1", "t2", "t4"])
        self.assert_refused(errors.NotClosed, ("k", "a"), crooked(), ["bot", "b", "k", "top"])
        self.assert_refused(errors.NotClosed, ("top", "b"), crooked(), ["bot", "top", "k"])

    def test_the_empty_list_and_the_one_of_all_things(self):
        for order in (one(), two(), diamond(), crooked(), widest()):
            self.assert_refused(errors.BadBorder, ("empty",), order, [])
            self.assert_refused(errors.BadBorder, ("all",), order, list(order.names))
            self.assert_refused(errors.BadBorder, ("all",), order, list(order.names[::-1]) * 2)
        self.assert_refused(errors.BadBorder, ("all",), one(), ["x"] * 1000)
        self.assert_refused(errors.UnknownName, ("q",), one(), ["x", "q"])


class Borders(Asks, unittest.TestCase):
    """Point [69]."""

    def test_ends(self):
        self.assertEqual(crossing_ends(two(), ["a"]), (("s0-1", "a", "b"),))
        self.assertEqual(crossing_ends(order=diamond(), closed=["w", "x"]),
                         (("s0-3", "w", "z"), ("s0-1", "w", "y"), ("s2-3", "x", "z")))

    def test_ends_stand_in_the_place_sequence(self):
        for order in random_orders(random.Random(244), 12) + [crooked(), triangle(), full(2, 2, 2)]:
            for closed in closed_lists(order)[::2]:
                found = crossing(order, closed)
                ends = crossing_ends(order, closed)
                self.assertEqual(tuple(row[0] for row in ends) + ("top",), found.names)
                for name, x, y in ends:
                    self.assertEqual(name, f"s{order.place(x)}-{order.place(y)}")
                due = tuple((x, y) for x, y in order.covers if x in closed and y not in closed)
                self.assertEqual(border(order, closed), due)
                names = {row[1:]: row[0] for row in ends}
                self.assertEqual(set(found.lowers("top")), {names[pair] for pair in due})

    def test_borders(self):
        self.assertEqual(border(diamond(), ["w"]), (("w", "y"), ("w", "x")))
        self.assertEqual(border(order=diamond(), closed=["x", "w"]), (("w", "y"), ("x", "z")))
        self.assertEqual(border(line(10), ["t0"]), (("t0", "t1"),))

    def test_even_orders_have_even_crossing_orders(self):
        for order in even_orders() + [polygon(4), cube(2)]:
            lists = closed_lists(order) if order.size <= 10 else [order.names[:1], order.names[:-1]]
            for closed in lists:
                if len(closed) * (order.size - len(closed)) < 40 or order.size <= 8:
                    self.assertIs(is_even(crossing(order, closed)), True)

    def test_the_least_thing_alone(self):
        for order in random_orders(random.Random(245), 20) + [triangle(), crooked(), widest(), wide(40), line(10)]:
            if order.size > 1:
                found = crossing(order, [order.least])
                pairs = [("top", order.least)] + [(name, y) for name, _, y in crossing_ends(order, [order.least])]
                self.assertIs(is_matching(found, turned(order), pairs), True)

    def test_all_but_the_greatest_thing(self):
        for order in random_orders(random.Random(246), 20) + [triangle(), crooked(), widest(), wide(40), line(10)]:
            if order.size > 1:
                closed = order.names[:-1]
                pairs = [("top", order.greatest)] + [(name, x) for name, x, _ in crossing_ends(order, closed)]
                self.assertIs(is_matching(crossing(order, closed), order, pairs), True)

    def test_no_argument_is_kept(self):
        closed = ["w", "x"]
        found = crossing(diamond(), closed)
        told = (found.names, found.covers)
        closed.clear()
        self.assertEqual((found.names, found.covers), told)


if __name__ == "__main__":
    unittest.main()

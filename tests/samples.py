"""Orders, wrong arguments, and the one way to ask for an error, that several test files share."""

from evenodds.counts import Counts
from evenodds.orders import Order
from evenodds.words import WordSum

# Of 60 digits, as many as an integer that is passed may have.
BIG = 10 ** 59
WRONG_WEIGHTS = (-1, -2, 10, 11, BIG, 9 * BIG, -BIG)

# For each weight some lists that are not rank sets for it.
WRONG_RANKS = (
    (0, (1,)), (0, (0,)), (0, (-1,)), (1, (2,)), (1, (0,)), (1, (0, 1)), (1, (1, 1)), (1, (1, 2)), (3, (4,)),
    (3, (2, 1)), (3, (1, 1)), (3, (1, 3, 2)), (3, (1, 2, 2)), (3, (1, 2, 3, 4)), (3, (0, 1, 2)), (3, (-1, 1)),
    (3, (3, 2, 1)), (3, (1, 2, 3, 3)), (3, (2, 3, 1)), (3, (1, BIG)), (3, (-BIG, 1)), (3, (BIG,)), (9, (10,)),
    (9, (0,)), (9, (9, 9)), (9, (9, 8)), (9, (1, 2, 3, 4, 5, 6, 7, 8, 9, 10)), (9, (0, 1, 2, 3, 4, 5, 6, 7, 8, 9)),
    (9, (-9,)), (9, tuple(range(1, 1001))), (9, (1,) * 1000),
)

# What has none of the five forms of an edit.
WRONG_FORMS = (
    (), [], ("add",), ("add", "a"), ("add", "a", []), ("add", "a", [], [], []), ("drop",), ("drop", "w", "x"),
    ("cover",), ("cover", "a"), ("cover", "a", "b", "c"), ("uncover", "a"), ("uncover", "a", "b", "c"),
    ("rename", "a"), ("rename", "a", "b", "c"), ("rename",), ("Drop", "w"), ("drop ", "w"), ("drop\n", "w"),
    ("", "w"), ("remove", "w"), (1, "w"), (0,), (None, "w"), (None,), (("drop",), "w"), (("drop", "w"),),
    (["drop"], "w"), ([["drop", "w"]],), ([], "w"), ((), "w"), ((1, (None, [2, ["a"]])), "w"), [["drop", "w"]],
)


class Asks:
    """Beside unittest.TestCase: asks for an error of exactly one class, with its attributes."""

    def assert_error(self, expected, values, function, *given, **named):
        with self.assertRaises(ValueError) as caught:
            function(*given, **named)
        error = caught.exception
        self.assertIs(error.__class__, expected)
        self.assertEqual(error.label, expected.__name__)
        told = tuple(shown_values(error))
        self.assertEqual(told, values)
        self.assertEqual([item.__class__ for item in told], [item.__class__ for item in values])

    def assert_sum(self, word_sum, letters, weight, terms):
        """The word sum has exactly these letters, this weight and these terms."""
        self.assertIs(word_sum.__class__, WordSum)
        self.assertEqual((word_sum.letters, word_sum.weight, word_sum.terms), (letters, weight, terms))

    def assert_same_order(self, order, names, covers):
        """The order has these names and covers, in exactly this sequence."""
        self.assertIs(order.__class__, Order)
        self.assertEqual(order.names, names)
        self.assertEqual(order.covers, covers)


def shown_values(error):
    """The values of the attributes of an error, in the sequence in which its class takes them."""
    code = error.__class__.__init__.__code__
    return [getattr(error, name) for name in code.co_varnames[1:code.co_argcount]]


def answer(function, *given, **named):
    """The result of a call as plain values: an order by its names and covers, an error by its attributes."""
    try:
        found = function(*given, **named)
    except ValueError as error:
        return ("error", error.__class__.__name__, tuple(shown_values(error)))
    return shown(found)


def shown(found):
    """A returned value as plain values."""
    if isinstance(found, Order):
        return ("order", found.names, found.covers)
    if isinstance(found, Counts):
        return ("counts", found.weight, found.pairs())
    if isinstance(found, WordSum):
        return ("sum", found.letters, found.weight, found.terms)
    if isinstance(found, dict):
        return ("table", tuple(found.items()))
    return ("value", found)


def one():
    return Order(["x"])


def diamond():
    """The order of the document's example, by place w y x z."""
    return Order(["z", "y", "x", "w"], [("w", "x"), ("w", "y"), ("x", "z"), ("y", "z")])


def two():
    return Order(["a", "b"], [("a", "b")])


def line(count):
    """The order of `count` things t0, t1 and so on, each covered by the next."""
    return Order(*line_lists(count))


def line_lists(count):
    names = [f"t{k}" for k in range(count)]
    return names, list(zip(names, names[1:]))


def wide(count):
    """An order of height 2 with `count` things in all."""
    return Order(*wide_lists(count))


def wide_lists(count):
    middle = [f"m{k}" for k in range(count - 2)]
    return ["n"] + middle + ["o"], [("n", m) for m in middle] + [(m, "o") for m in middle]


def full(*sizes):
    """The order with so many middle things of each rank, each below all of the next rank; m1-0 has rank 1."""
    levels = [["n"]] + [[f"m{k}-{j}" for j in range(size)] for k, size in enumerate(sizes, start=1)] + [["o"]]
    names = [name for level in levels for name in level]
    return Order(names, [(x, y) for level, after in zip(levels, levels[1:]) for x in level for y in after])


def widest():
    """An order with 40 things and height 9."""
    return full(5, 5, 5, 5, 5, 5, 4, 4)


def crooked():
    """An uneven order with as many even as odd ranks; by place it is bot b a c k j x top."""
    names = ["top", "k", "j", "b", "a", "c", "x", "bot"]
    covers = [("k", "top"), ("j", "top"), ("x", "top"), ("a", "x"), ("a", "k"), ("c", "x"), ("b", "j"), ("b", "k")]
    return Order(names, covers + [("bot", "c"), ("bot", "a"), ("bot", "b")])


def skew():
    """An uneven order of height 3 whose own letter sum is that of the triangle order."""
    order = crooked()
    return Order(order.names, order.covers + (("c", "k"),))


def beside():
    """An order of height 4 whose first uneven stretch is the whole: two even orders beside each other."""
    order = full(2, 2, 2)
    other = {name: name + "-x" for name in order.names[1:-1]}
    more = [tuple(other.get(name, name) for name in pair) for pair in order.covers]
    return Order(order.names + tuple(other.values()), order.covers + tuple(more))


def random_lists(source):
    """Names in ranks and covers mostly between neighbouring ranks, with a few slips."""
    ranks = [["n"]] + [[f"r{k}-{j}" for j in range(source.randint(1, 3))] for k in range(source.randint(0, 3))]
    ranks.append(["o"])
    covers = [(low, high) for lower, upper in zip(ranks, ranks[1:]) for low in lower for high in upper]
    covers = [pair for pair in covers if source.random() < 0.9]
    names = [name for rank in ranks for name in rank]
    if source.random() < 0.2:
        covers.append((source.choice(names + ["q"]), source.choice(names + ["q"])))
    if source.random() < 0.1:
        names.append(source.choice(names + ["B", "q", "r"]))
    source.shuffle(names)
    source.shuffle(covers)
    return names, covers


def all_edits(order):
    """Edits of all forms with known, unknown and wrong names, most of which cannot be applied."""
    texts = order.names + ("q", "B")
    lists = [(), texts[:1], texts[-3:-1], (texts[0], texts[1]), (texts[1], texts[1]), ("v",), (order.greatest,)]
    for word in ("add", "drop", "cover", "uncover", "rename", "turn"):
        for name in texts + ("v",):
            yield (word, name)
            yield from ((word, name, other) for other in texts + ("v",))
            yield from ((word, name, lowers, uppers) for lowers in lists for uppers in lists)


def random_orders(source, count):
    """So many good orders from random lists."""
    found = []
    while len(found) < count:
        lists = random_lists(source)
        if answer(Order, *lists)[0] == "order":
            found.append(Order(*lists))
    return found


def triangle():
    """Three corners, three sides, a least and a greatest thing."""
    names = ["none", "v0", "v1", "v2", "e0", "e1", "e2", "whole"]
    covers = [("none", f"v{k}") for k in range(3)] + [(f"e{k}", "whole") for k in range(3)]
    covers += [(f"v{k}", f"e{k}") for k in range(3)] + [(f"v{(k + 1) % 3}", f"e{k}") for k in range(3)]
    return Order(names, covers)


def some_sums(letters, weight, source, count):
    """So many word sums of the letter pair and weight, the zero sum first, with small numbers."""
    words = all_words(letters, weight)
    found = [WordSum(letters, weight, [])]
    while len(found) < count:
        chosen = [word for word in words if source.random() < 0.6]
        found.append(WordSum(letters, weight, [(word, source.randint(-4, 4)) for word in chosen]))
    return found


def all_words(letters, weight):
    """All words of the letter pair and weight, as texts are compared."""
    if weight <= 0:
        return [""] * (weight == 0)
    first, second = letters
    longer = [first + word for word in all_words(letters, weight - 1)]
    return longer + [second + word for word in all_words(letters, weight - (2 if letters == "cd" else 1))]

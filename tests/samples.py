"""Orders, and the one way to ask for an error, that several test files share."""

from evenodds.orders import Order


class Asks:
    """Beside unittest.TestCase: asks for an error of exactly one class, with its attributes."""

    def assert_error(self, expected, values, function, *given, **named):
        with self.assertRaises(ValueError) as caught:
            function(*given, **named)
        error = caught.exception
        self.assertIs(error.__class__, expected)
        self.assertEqual(error.label, expected.__name__)
        shown = tuple(shown_values(error))
        self.assertEqual(shown, values)
        self.assertEqual([item.__class__ for item in shown], [item.__class__ for item in values])

    def assert_same_order(self, order, names, covers):
        """The order has these names and covers, in exactly this sequence."""
        self.assertIs(order.__class__, Order)
        self.assertEqual(order.names, names)
        self.assertEqual(order.covers, covers)


def shown_values(error):
    """The values of the attributes of an error, in the sequence in which its class takes them."""
    code = error.__class__.__init__.__code__
    return [getattr(error, name) for name in code.co_varnames[1:code.co_argcount]]


def answer(function, *given):
    """The result of a call as plain values: an order by its names and covers, an error by its attributes."""
    try:
        order = function(*given)
    except ValueError as error:
        return ("error", error.__class__.__name__, tuple(shown_values(error)))
    return ("order", order.names, order.covers)


def one():
    return Order(["x"])


def diamond():
    """The order of the document's example, by place w y x z."""
    return Order(["z", "y", "x", "w"], [("w", "x"), ("w", "y"), ("x", "z"), ("y", "z")])


def two():
    return Order(["a", "b"], [("a", "b")])


def line(count):
    """The order of `count` things t0, t1 and so on, each covered by the next."""
    return Order(*line_lists(count))


def line_lists(count):
    names = [f"t{k}" for k in range(count)]
    return names, list(zip(names, names[1:]))


def wide(count):
    """An order of height 2 with `count` things in all."""
    return Order(*wide_lists(count))


def wide_lists(count):
    middle = [f"m{k}" for k in range(count - 2)]
    return ["n"] + middle + ["o"], [("n", m) for m in middle] + [(m, "o") for m in middle]


def triangle():
    """Three corners, three sides, a least and a greatest thing."""
    names = ["none", "v0", "v1", "v2", "e0", "e1", "e2", "whole"]
    covers = [("none", f"v{k}") for k in range(3)] + [(f"e{k}", "whole") for k in range(3)]
    covers += [(f"v{k}", f"e{k}") for k in range(3)] + [(f"v{(k + 1) % 3}", f"e{k}") for k in range(3)]
    return Order(names, covers)

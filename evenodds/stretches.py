"""Stretches: all things from one thing of an order up to another."""

from evenodds.errors import SMALL_THINGS, NotBelow, TooMany
from evenodds.orders import Order


def check_small(order):
    """Raise TooMany if the order has too many things to go through all of its stretches in every way."""
    if order.size > SMALL_THINGS:
        raise TooMany("things", SMALL_THINGS)


def check_at_most(order, low, high):
    """Raise UnknownName, or NotBelow if `low` is not at most `high`."""
    if not order.is_at_most(low, high):
        raise NotBelow(low, high)


def names_stretch(order, paper, count):
    """True if the value, which may be any, is a tuple of so many items that begins with the ends of a stretch.

    The first end is below the second one.
    """
    if not isinstance(paper, tuple) or len(paper) != count:
        return False
    low, high = paper[:2]
    if not all([isinstance(name, str) and name in order for name in (low, high)]):
        return False
    return order.is_below(low, high)


def stretch(order, low, high):
    """The names of all things from `low` to `high`, both included, by place."""
    check_at_most(order, low, high)
    return tuple([name for name in order.names if order.is_at_most(low, name) and order.is_at_most(name, high)])


def inner_things(order, low, high):
    """The names of the stretch without its two ends."""
    return tuple([name for name in stretch(order, low, high) if name not in (low, high)])


def stretch_order(order, low, high):
    """The things of the stretch as an order of their own."""
    names = stretch(order, low, high)
    return Order(names, [(lower, upper) for lower, upper in order.covers if lower in names and upper in names])


def length(order, low, high):
    """The number of ranks from `low` up to `high`."""
    return order.rank(high) - order.rank(low)


def stretches(order, *, least_length=1):
    """The pairs (low, high) of all stretches of at least this length, in the stretch sequence."""
    ends = [(low, high) for low in order.names for high in order.names if order.is_at_most(low, high)]
    long = [(low, high) for low, high in ends if length(order, low, high) >= least_length]
    # The pairs stand by place already, and sorting keeps that among those of equal length.
    return tuple(sorted(long, key=lambda pair: length(order, pair[0], pair[1])))

"""Closed lists of things, and the order of the stretches that cross their border."""

from evenodds.errors import BadBorder, NotClosed
from evenodds.orders import Order, check_known
from evenodds.products import check_count

TOP = "top"


def first_missing(order, things):
    """The first thing (high, low) of the list below which a thing is missing, and the missing one, or None."""
    held = {name: True for name in things}
    for high in things:
        for low in order.names:
            if low not in held and order.is_below(low, high):
                return (high, low)
    return None


def is_closed(order, things):
    """True if all of the names are those of things and the list holds every thing below one of them."""
    return all([name in order for name in things]) and first_missing(order, things) is None


def closure_below(order, things):
    """All of the listed things and all things below them, by place."""
    check_known(order, things)
    listed = [name for name in order.names if name in things]
    return tuple([low for low in order.names if any([order.is_at_most(low, high) for high in listed])])


def check_border(order, closed):
    """Raise an error if the list is not closed, is empty or holds all things."""
    check_known(order, closed)
    missing = first_missing(order, closed)
    if missing is not None:
        high, low = missing
        raise NotClosed(high, low)
    if len(closed) == 0:
        raise BadBorder("empty")
    if all([name in closed for name in order.names]):
        raise BadBorder("all")


def crossing_stretches(order, closed):
    """The names and the ends of all crossing stretches, by the places of their ends."""
    check_border(order, closed)
    inside = [name for name in order.names if name in closed]
    outside = [name for name in order.names if name not in closed]
    ends = [(low, high) for low in inside for high in outside if order.is_below(low, high)]
    check_count(len(ends) + 1)
    return [(f"s{order.place(low)}-{order.place(high)}", low, high) for low, high in ends]


def crossing_covers(order, told):
    """The covers between crossing stretches, each told by its name and its ends, and the top."""
    names = {(low, high): name for name, low, high in told}
    covers = []
    for name, low, high in told:
        # One end moves by one cover and stays on its side of the border; where neither can, the top follows.
        smaller = [(upper, high) for upper in order.uppers(low)] + [(low, lower) for lower in order.lowers(high)]
        above = [names[ends] for ends in smaller if ends in names]
        covers.extend([(name, other) for other in above])
        if not above:
            covers.append((name, TOP))
    return covers


def crossing(order, closed):
    """The order of the crossing stretches, the smaller ones above, and of a top above all."""
    told = crossing_stretches(order, closed)
    return Order([*[row[0] for row in told], TOP], crossing_covers(order, told))


def crossing_ends(order, closed):
    """The names of the crossing stretches in the place sequence of their order, each with its two ends."""
    ends = {name: (name, low, high) for name, low, high in crossing_stretches(order, closed)}
    return tuple([ends[name] for name in crossing(order, closed) if name != TOP])


def border(order, closed):
    """The covers that lead out of the closed list."""
    check_border(order, closed)
    return tuple([(lower, upper) for lower, upper in order.covers if lower in closed and upper not in closed])

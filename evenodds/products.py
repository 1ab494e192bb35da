"""Orders made from others: turned, laid on one another, products, pyramids and prisms."""

from evenodds.counts import check_height
from evenodds.errors import MOST_THINGS, TooMany
from evenodds.orders import Order, turned_pairs


def check_count(count):
    """Raise TooMany if no order may have so many things; a height out of bounds is refused by `Order`."""
    if count > MOST_THINGS:
        raise TooMany("things", MOST_THINGS)


def turned(order):
    """The order with lower and upper exchanged."""
    return Order(order.names, turned_pairs(order.covers))


def place_covers(order):
    """The covers of the order as pairs of places; the least thing has place 0, the greatest the last one."""
    return [(order.place(lower), order.place(upper)) for lower, upper in order.covers]


def copied_names(letter, places):
    """The names of a copy of things that is marked by the letter."""
    return [f"{letter}{at}" for at in places]


def copied_covers(letter, covers):
    """The covers, told as places, between the things of such a copy."""
    return [(f"{letter}{low}", f"{letter}{high}") for low, high in covers]


def laid(lower, upper):
    """The lower order without its greatest thing, and on it the upper one without its least thing."""
    check_height(lower)
    check_height(upper)
    check_count(lower.size + upper.size - 2)
    last = lower.size - 1
    below = place_covers(lower)
    above = place_covers(upper)
    joints = [(f"l{low}", f"u{high}") for low, end in below if end == last for start, high in above if start == 0]
    return Order(
        [*copied_names("l", list(range(last))), *copied_names("u", list(range(1, upper.size)))],
        [
            *copied_covers("l", [(low, high) for low, high in below if high != last]),
            *copied_covers("u", [(low, high) for low, high in above if low != 0]),
            *joints,
        ],
    )


def pair_name(at, other):
    """The name of the thing of a product that has these places."""
    return f"x{at}-{other}"


def product(left, right):
    """The pairs of things of two orders, where one is at most another if both members are."""
    check_count(left.size * right.size)
    names = [pair_name(at, other) for at in range(left.size) for other in range(right.size)]
    covers = [(pair_name(low, other), pair_name(high, other))
              for low, high in place_covers(left) for other in range(right.size)]
    covers.extend([(pair_name(at, low), pair_name(at, high))
                   for low, high in place_covers(right) for at in range(left.size)])
    return Order(names, covers)


def pyramid(order):
    """Two copies of the order, each thing of the second one above the same thing of the first one."""
    check_count(2 * order.size)
    places = list(range(order.size))
    covers = place_covers(order)
    sides = [(f"b{at}", f"t{at}") for at in places]
    return Order(
        [*copied_names("b", places), *copied_names("t", places)],
        [*copied_covers("b", covers), *copied_covers("t", covers), *sides],
    )


def prism(order):
    """Two ends and a side between them for each thing but the least one, and a least thing below all."""
    check_height(order)
    check_count(3 * order.size - 2)
    places = list(range(1, order.size))
    covers = [(low, high) for low, high in place_covers(order) if low != 0]
    names = ["n"]
    pairs = [("n", f"{letter}{order.place(name)}") for letter in "fg" for name in order.at_rank(1)]
    for letter in "fgw":
        names.extend(copied_names(letter, places))
        pairs.extend(copied_covers(letter, covers))
    pairs.extend([(f"{letter}{at}", f"w{at}") for letter in "fg" for at in places])
    return Order(names, pairs)

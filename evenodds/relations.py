"""Relations of orders, orders made from relations, and matchings of two orders."""

from evenodds.errors import WrongCount
from evenodds.orders import Order, as_pairs, check_names, check_pair_names, things_above


def relations(order):
    """All pairs (low, high) with low below high, by place."""
    return tuple([(low, high) for low in order.names for high in order.names if order.is_below(low, high)])


def is_cover(above, low, high):
    """True if `high` is above `low` with no thing between them."""
    if high not in above[low]:
        return False
    return not any([high in above[between] for between in above[low]])


def order_from_relations(names, pairs):
    """The order with the smallest relation that contains all pairs; repeated pairs do not matter."""
    given = tuple(names)
    told = as_pairs(pairs)
    check_names(given)
    check_pair_names(given, told)
    above = things_above(given, told)
    return Order(given, [(low, high) for low in given for high in given if is_cover(above, low, high)])


def is_alike(order, other):
    """True if both orders have the same names and the same covers, in whatever place sequence."""
    if sorted(order.names) != sorted(other.names):
        return False
    return sorted(order.covers) == sorted(other.covers)


def carried_covers(order, image):
    """The covers of the order with each name replaced by its image."""
    return [(image[lower], image[upper]) for lower, upper in order.covers]


def renamed(order, names):
    """The order in which the thing at place k has the name `names[k]`."""
    given = tuple(names)
    check_names(given)
    if len(given) != order.size:
        raise WrongCount(order.size, len(given))
    image = {old: new for old, new in zip(order.names, given)}
    return Order(given, carried_covers(order, image))


def is_matching(order, other, pairs):
    """True if the pairs carry the things and covers of `order` one to one onto those of `other`."""
    image = {first: second for first, second in pairs}
    if len(pairs) != order.size or sorted(list(image)) != sorted(order.names):
        return False
    if sorted(list(image.values())) != sorted(other.names):
        return False
    return sorted(carried_covers(order, image)) == sorted(other.covers)

"""Moebius numbers of an order, of a selection of its ranks, and of what remains of it without some things."""

from evenodds.counts import check_height, sign_of, total_below
from evenodds.errors import EndStruck
from evenodds.orders import check_known
from evenodds.ranksets import check_ranks
from evenodds.relations import order_from_relations
from evenodds.stretches import length, stretch, stretches


def mu_from(order, low, names):
    """A dict from each of the names that `low` is at most to its number, where no other things count.

    The names stand by place, and `low` is among them.
    """
    found = {low: 1}
    for high in names:
        if order.is_below(low, high):
            found[high] = -total_below(order, found, high)
    return found


def mu(order, low, high):
    """The Moebius number of the stretch, and 0 if `low` is not at most `high`."""
    check_known(order, (low, high))
    return mu_from(order, low, order.names).get(high, 0)


def mu_table(order):
    """A dict from the ends of each stretch, in the stretch sequence, to its number."""
    rows = {low: mu_from(order, low, order.names) for low in order.names}
    return {(low, high): rows[low][high] for low, high in stretches(order, least_length=0)}


def is_mu_table(order, table):
    """True if the dict has exactly the keys and numbers of the table of the order, in any sequence."""
    return table == mu_table(order)


def unlike_mu(order):
    """The ends and the number of the first stretch whose number is not that of its length, or None."""
    table = mu_table(order)
    for low, high in stretches(order):
        number = table[(low, high)]
        if number != sign_of(length(order, low, high)):
            return (low, high, number)
    return None


def signed_total(order, low, high):
    """The number of things of the stretch, those at an odd distance from `low` counted negative."""
    return sum([sign_of(length(order, low, name)) for name in stretch(order, low, high)])


def selected(order, ranks):
    """The order of the two ends and of all things of these ranks."""
    check_height(order)
    check_ranks(ranks, order.weight)
    names = [name for name in order.names if order.rank(name) in (0, *ranks, order.height)]
    return order_from_relations(names, [(low, high) for low in names for high in names if order.is_below(low, high)])


def check_struck(order, struck):
    """Raise UnknownName or EndStruck if not all of the names are those of middle things."""
    check_known(order, struck)
    for name in struck:
        if name in (order.least, order.greatest):
            raise EndStruck(name)


def mu_without(order, struck):
    """The number from the least to the greatest thing where the struck things are left out."""
    check_struck(order, struck)
    remaining = [name for name in order.names if name not in struck]
    return mu_from(order, order.least, remaining)[order.greatest]


def mu_by_struck(order, struck):
    """The same number from the chains of struck things and the numbers of the whole order."""
    check_struck(order, struck)
    table = mu_table(order)
    # For each thing the total over the chains of struck things below it, as if it were the greatest thing.
    found = {}
    for high in [*[name for name in order.names if name in struck], order.greatest]:
        # A chain with a last thing is one that ends below that thing, with that thing and a sign more.
        longer = sum([found[last] * table[(last, high)] for last in found if order.is_below(last, high)])
        found[high] = table[(order.least, high)] - longer
    return found[order.greatest]

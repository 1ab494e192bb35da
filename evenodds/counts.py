"""Chains of an order, and numbers for each rank set: counts of chains and signed counts."""

from evenodds.errors import MOST_CHAINS, NotBelow, TooLow, TooMany, UnlikeSums
from evenodds.orders import check_known
from evenodds.ranksets import check_ranks, check_weight, rank_sets


def is_middle_chain(order, things):
    """True if the list consists of middle things, each below the next."""
    if not all([name in order and 0 < order.rank(name) < order.height for name in things]):
        return False
    return all([order.is_below(low, high) for low, high in zip(things, things[1:])])


def has_ends(order, things):
    """True if the list begins with the least thing and ends with another thing, the greatest."""
    if order.height == 0 or len(things) < 2:
        return False
    return things[0] == order.least and things[-1] == order.greatest


def is_chain(order, things, *, with_ends=False):
    """True if the list of names is a chain, or with both ends around it if `with_ends` is True."""
    if with_ends:
        return has_ends(order, things) and is_middle_chain(order, things[1:-1])
    return is_middle_chain(order, things)


def check_ascending(order, things):
    """Raise UnknownName, or NotBelow for the first two neighbours of which the earlier one is not below the later."""
    check_known(order, things)
    for low, high in zip(things, things[1:]):
        if not order.is_below(low, high):
            raise NotBelow(low, high)


def chain_ranks(order, things):
    """The ranks of a list of names, each of which is below the next."""
    check_ascending(order, things)
    return tuple([order.rank(name) for name in things])


def check_height(order):
    """Raise TooLow if the order has only one thing."""
    if order.height == 0:
        raise TooLow(order.height)


def sign_of(count):
    """The power of -1 that has this exponent."""
    return 1 if count % 2 == 0 else -1


def total_below(order, numbers, name):
    """The sum of the numbers of all things below the thing."""
    return sum([numbers[low] for low in numbers if order.is_below(low, name)])


def alpha(order, ranks):
    """The number of chains with exactly one thing at each of the ranks and no others."""
    check_height(order)
    check_ranks(ranks, order.weight)
    # For each thing of the last rank so far, the number of chains that end there.
    ending = {order.least: 1}
    for rank in ranks:
        ending = {name: total_below(order, ending, name) for name in order.at_rank(rank)}
    return sum(ending.values())


def chains(order, ranks, *, with_ends=False):
    """All chains with exactly one thing at each of the ranks and no others, ascending by places."""
    if alpha(order, ranks) > MOST_CHAINS:
        raise TooMany("chains", MOST_CHAINS)
    found = [(order.least,)]
    for rank in ranks:
        level = order.at_rank(rank)
        found = [(*things, name) for things in found for name in level if order.is_below(things[-1], name)]
    if with_ends:
        return tuple([(*things, order.greatest) for things in found])
    return tuple([things[1:] for things in found])


def check_like(first, second):
    """Raise UnlikeSums if the two have not the same weight."""
    if first.weight != second.weight:
        raise UnlikeSums("weight")


class Counts:
    """An integer for each rank set of a weight."""

    def __init__(self, weight, table):
        check_weight(weight)
        for ranks in table:
            check_ranks(ranks, weight)
        self.weight = weight
        self._numbers = {ranks: table.get(ranks, 0) for ranks in rank_sets(weight)}

    def __eq__(self, other):
        return isinstance(other, Counts) and self.weight == other.weight and self._numbers == other._numbers

    def __getitem__(self, at):
        check_ranks(at, self.weight)
        return self._numbers[at]

    def __iter__(self):
        return iter(self._numbers)

    def __add__(self, other):
        check_like(self, other)
        return Counts(self.weight, {ranks: self[ranks] + other[ranks] for ranks in self})

    def __sub__(self, other):
        check_like(self, other)
        return Counts(self.weight, {ranks: self[ranks] - other[ranks] for ranks in self})

    def pairs(self):
        """All pairs (rank set, number), in the rank sequence."""
        return tuple(self._numbers.items())


def chain_totals(order, weight, total_at):
    """The `Counts` of totals over all tuples of things with exactly the ranks of a rank set, each below the next.

    The function `total_at` gives the total for a thing at the end from the totals of the things before it.
    """
    # For each rank set the totals by the last thing; the rank set without its last rank comes before it.
    endings = {(): {order.least: 1}}
    for ranks in rank_sets(weight)[1:]:
        before = endings[ranks[:-1]]
        endings[ranks] = {name: total_at(before, name) for name in order.at_rank(ranks[-1])}
    return Counts(weight, {ranks: sum(ending.values()) for ranks, ending in endings.items()})


def alphas(order):
    """The numbers of chains of the order for each rank set."""
    check_height(order)
    return chain_totals(order, order.weight, lambda before, name: total_below(order, before, name))


def totals_within(counts, sign):
    """The `Counts` of the sums over all rank sets within each one, times `sign` for each rank they lack of it."""
    numbers = {ranks: number for ranks, number in counts.pairs()}
    for rank in range(1, counts.weight + 1):
        for ranks in counts:
            # What lacks the rank is not changed in this round, so each rank set within is added once.
            if rank in ranks:
                numbers[ranks] += sign * numbers[tuple([other for other in ranks if other != rank])]
    return Counts(counts.weight, numbers)


def betas_of_alphas(counts):
    """The signed counts that belong to the counts."""
    return totals_within(counts, -1)


def alphas_of_betas(counts):
    """The counts that belong to the signed counts."""
    return totals_within(counts, 1)


def beta(order, ranks):
    """The signed count of the order at the rank set."""
    return betas_of_alphas(alphas(order))[tuple(ranks)]

"""What the document says of stretches, even orders, rank sets, chains and counts, told a second time, slowly.

An order is passed as `Told`, which knows its names and covers alone; answers have the form of `samples.answer`.
"""

import itertools

from plain import closure, first_listed, longest, order_answer


class Told:
    """An order by its names in place sequence and its covers."""

    def __init__(self, names, covers):
        self.names, self.covers = names, covers
        self.below = closure(names, covers)
        self.ranks = {name: longest(covers, name) for name in names}
        self.height = self.ranks[names[-1]]
        self.middle = names[1:-1]

    def at_most(self, low, high):
        return low == high or (low, high) in self.below

    def between(self, low, high):
        return tuple(name for name in self.names if self.at_most(low, name) and self.at_most(name, high))


def error_answer(due):
    return ("error",) + first_listed(due)


def end_errors(told, low, high):
    """The errors of a stretch that are due."""
    due = [("UnknownName", (name,)) for name in (low, high) if name not in told.names]
    if not due and not told.at_most(low, high):
        due.append(("NotBelow", (low, high)))
    return due


def stretch_answer(told, low, high):
    due = end_errors(told, low, high)
    return error_answer(due) if due else ("value", told.between(low, high))


def inner_answer(told, low, high):
    due = end_errors(told, low, high)
    return error_answer(due) if due else ("value", told.between(low, high)[1:-1])


def stretch_order_answer(told, low, high):
    due = end_errors(told, low, high)
    if due:
        return error_answer(due)
    names = told.between(low, high)
    return order_answer(names, [pair for pair in told.covers if set(pair) <= set(names)])


def parity_answer(told, low, high):
    due = end_errors(told, low, high)
    if due:
        return error_answer(due)
    parities = [told.ranks[name] & 1 for name in told.between(low, high)]
    return ("value", (parities.count(0), parities.count(1)))


def stretch_pairs(told, least):
    """All stretches of at least this length in the stretch sequence."""
    pairs = [(low, high) for low in told.names for high in told.names if told.at_most(low, high)]
    places = {name: place for place, name in enumerate(told.names)}
    keyed = [(told.ranks[high] - told.ranks[low], places[low], places[high], (low, high)) for low, high in pairs]
    return tuple(item[3] for item in sorted(keyed) if item[0] >= max(least, 0))


def uneven_papers(told):
    """All uneven papers in the stretch sequence."""
    papers = [(low, high) + parity_answer(told, low, high)[1] for low, high in stretch_pairs(told, 1)]
    return tuple(paper for paper in papers if paper[2] != paper[3])


def all_rank_sets(weight):
    """All rank sets for the weight in the rank sequence."""
    found = [tuple(rank for rank, taken in enumerate(bits, start=1) if taken)
             for bits in itertools.product((0, 1), repeat=max(weight, 0))]
    return sorted(found, key=lambda ranks: (len(ranks), ranks))


def chain_answer(told, things, with_ends):
    """What `is_chain` gives."""
    things = tuple(things)
    if with_ends:
        return (len(told.names) > 1 and len(things) >= 2 and (things[0], things[-1]) == (told.names[0], told.names[-1])
                and chain_answer(told, things[1:-1], False))
    return set(things) <= set(told.middle) and all(pair in told.below for pair in zip(things, things[1:]))


def chain_ranks_answer(told, things):
    due = [("UnknownName", (name,)) for name in things if name not in told.names]
    if not due:
        due = [("NotBelow", pair) for pair in zip(things, things[1:]) if pair not in told.below]
    return error_answer(due) if due else ("value", tuple(told.ranks[name] for name in things))


def rank_errors(told, ranks):
    """The errors of `alpha` that are due."""
    due = [("TooLow", (0,))] if told.height == 0 else []
    if tuple(ranks) not in all_rank_sets(told.height - 1):
        due.append(("InvalidRanks", (tuple(ranks),)))
    return due


def all_chains(told, ranks):
    """The chains of these ranks, ascending as their places are compared."""
    levels = [[name for name in told.names if told.ranks[name] == rank] for rank in ranks]
    # The product goes through the things of each rank by place.
    return tuple(things for things in itertools.product(*levels)
                 if all(pair in told.below for pair in zip(things, things[1:])))


def chains_answer(told, ranks, with_ends):
    due = rank_errors(told, ranks)
    if due:
        return error_answer(due)
    found = all_chains(told, ranks)
    if len(found) > 2000:
        return ("error", "TooMany", ("chains", 2000))
    if with_ends:
        found = tuple((told.names[0],) + things + (told.names[-1],) for things in found)
    return ("value", found)


def alpha_answer(told, ranks):
    due = rank_errors(told, ranks)
    return error_answer(due) if due else ("value", len(all_chains(told, ranks)))


def alphas_table(told):
    return {ranks: len(all_chains(told, ranks)) for ranks in all_rank_sets(told.height - 1)}


def within(table, sign):
    """For each rank set the sum over all within it, each times the sign for each rank that it lacks."""
    return {ranks: sum(number * sign ** len(set(ranks) - set(part)) for part, number in table.items()
                       if set(part) <= set(ranks)) for ranks in table}


def beta_answer(told, ranks):
    due = rank_errors(told, ranks)
    return error_answer(due) if due else ("value", within(alphas_table(told), -1)[tuple(ranks)])


def counts_answer(weight, table):
    """A table of all rank sets as a `Counts` answers."""
    return ("counts", weight, tuple((ranks, table.get(ranks, 0)) for ranks in all_rank_sets(weight)))

"""Rank sets: ascending tuples of ranks, and their letter words."""

from itertools import combinations

from evenodds.errors import MOST_WEIGHT, InvalidRanks, InvalidWeight, InvalidWord


def is_weight(weight):
    """True if rank sets have a meaning for the weight."""
    return 0 <= weight <= MOST_WEIGHT


def check_weight(weight):
    """Raise InvalidWeight if the weight is out of bounds."""
    if not is_weight(weight):
        raise InvalidWeight(weight)


def is_rank_set(ranks, weight):
    """True if the ranks are ascending and from 1 to the weight; False for every weight out of bounds."""
    if not is_weight(weight) or not all([1 <= rank <= weight for rank in ranks]):
        return False
    return all([rank < after for rank, after in zip(ranks, ranks[1:])])


def check_ranks(ranks, weight):
    """Raise InvalidWeight, or InvalidRanks if the ranks are not a rank set for the weight."""
    check_weight(weight)
    if not is_rank_set(ranks, weight):
        raise InvalidRanks(ranks)


def rank_sets(weight):
    """All rank sets for the weight, in the rank sequence."""
    check_weight(weight)
    return subsets(list(range(1, weight + 1)))


def subsets(ranks):
    """All rank sets whose ranks all stand in `ranks`, in the rank sequence."""
    check_ranks(ranks, MOST_WEIGHT)
    told = list(ranks)
    # The ranks are ascending, so the combinations of one size come as tuples are compared.
    return tuple([part for size in range(len(told) + 1) for part in combinations(told, size)])


def complement(ranks, weight):
    """The rank set of the ranks from 1 to the weight that `ranks` lacks."""
    check_ranks(ranks, weight)
    return tuple([rank for rank in range(1, weight + 1) if rank not in ranks])


def word_of(ranks, weight):
    """The letter word of the rank set: b for each rank that is taken, a for each one that is not."""
    check_ranks(ranks, weight)
    return "".join(["b" if rank in ranks else "a" for rank in range(1, weight + 1)])


def ranks_of(word):
    """The rank set whose letter word this is."""
    if len(word) > MOST_WEIGHT or not all([letter in "ab" for letter in word]):
        raise InvalidWord(word)
    return tuple([rank for rank, letter in enumerate(word, start=1) if letter == "b"])

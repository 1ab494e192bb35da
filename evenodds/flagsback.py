"""The few numbers that tell all counts of an even order, and the equations that such counts keep."""

from evenodds.absum import betas_of_sum, sum_of_betas
from evenodds.cdread import reading
from evenodds.cdwords import cd_count, spread
from evenodds.counts import Counts, alphas_of_betas, betas_of_alphas, sign_of
from evenodds.errors import MOST_WEIGHT, InvalidSize, WrongCount
from evenodds.ranksets import check_ranks, rank_sets


def is_sparse(ranks):
    """True if the rank set does not hold rank 1 and holds no two neighbouring ranks."""
    check_ranks(ranks, MOST_WEIGHT)
    # Rank 1 is barred as a neighbour of rank 0.
    return all([rank - before > 1 for before, rank in zip([0, *ranks], ranks)])


def sparse_sets(weight):
    """The sparse rank sets for the weight, in the rank sequence."""
    return tuple([ranks for ranks in rank_sets(weight) if is_sparse(ranks)])


def few_numbers(counts):
    """The numbers at the sparse rank sets."""
    return tuple([counts[ranks] for ranks in sparse_sets(counts.weight)])


def told_back(weight, numbers):
    """The one `Counts` that has these few numbers and a readable sum of its signed counts."""
    due = cd_count(weight)
    if len(numbers) != due:
        raise WrongCount(due, len(numbers))
    few = Counts(weight, {ranks: number for ranks, number in zip(sparse_sets(weight), numbers)})
    # Rank sets within a sparse one are sparse, so the signed counts at the sparse sets are right already, and
    # these are the numbers of the first words, on which alone the c-d part of a reading depends.
    cd_part, _ = reading(sum_of_betas(betas_of_alphas(few)))
    return alphas_of_betas(betas_of_sum(spread(cd_part)))


def with_rank(ranks, rank):
    """The rank set with one rank more."""
    return tuple(sorted([*ranks, rank]))


def balance_sides(counts, ranks, low):
    """The left and the right side of the balance equation of the rank set, from `low` to its next rank."""
    check_ranks(ranks, counts.weight)
    if low not in (0, *ranks):
        raise InvalidSize(low)
    high = min([rank for rank in (*ranks, counts.weight + 1) if rank > low])
    left = sum([sign_of(rank - low - 1) * counts[with_rank(ranks, rank)] for rank in range(low + 1, high)])
    right = 2 * counts[tuple(ranks)] if (high - low) % 2 == 0 else 0
    return (left, right)


def broken_balance(counts):
    """The first rank set and rank below whose equation does not hold, with its two sides, or None."""
    for ranks in counts:
        for low in (0, *ranks):
            left, right = balance_sides(counts, ranks, low)
            if left != right:
                return (ranks, low, left, right)
    return None


def is_balanced(counts):
    """True if all balance equations hold."""
    return broken_balance(counts) is None

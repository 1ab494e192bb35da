"""Letter sums: the signed counts of an order or of a stretch as one sum of words in a and b."""

from evenodds.counts import Counts, alphas, betas_of_alphas
from evenodds.ranksets import ranks_of, word_of
from evenodds.stretches import check_small, stretch_order, stretches
from evenodds.words import WordSum, check_sum_letters


def sum_of_betas(counts):
    """The word sum that has the number of each rank set at its letter word."""
    return WordSum("ab", counts.weight, [(word_of(ranks, counts.weight), number) for ranks, number in counts.pairs()])


def betas_of_sum(word_sum):
    """The `Counts` that has the number of each word at its rank set."""
    check_sum_letters(word_sum, "ab")
    return Counts(word_sum.weight, {ranks_of(word): number for word, number in word_sum})


def ab_sum(order):
    """The letter sum of the order."""
    return sum_of_betas(betas_of_alphas(alphas(order)))


def stretch_sum(order, low, high):
    """The letter sum of the stretch."""
    return ab_sum(stretch_order(order, low, high))


def first_stretch(order, judge):
    """The ends of the first stretch of length 1 or more of whose letter sum `judge` tells a fault, and the fault.

    The judge returns a tuple, or None if it finds no fault; so does this function. It raises TooMany for an order
    with too many things to go through all letter sums.
    """
    check_small(order)
    for low, high in stretches(order):
        fault = judge(stretch_sum(order, low, high))
        if fault is not None:
            return (low, high, *fault)
    return None

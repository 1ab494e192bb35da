"""Mirrors of sums in a and b, and the first place where a sum or an order is unlike its mirror."""

from evenodds.absum import first_stretch
from evenodds.counts import alphas, betas_of_alphas
from evenodds.ranksets import complement
from evenodds.words import WordSum, check_sum_letters


def mirror_word(word):
    """The word with a and b changed for one another."""
    return "".join(["b" if letter == "a" else "a" for letter in word])


def mirrored(word_sum):
    """The sum with a and b changed for one another in each word."""
    check_sum_letters(word_sum, "ab")
    return WordSum("ab", word_sum.weight, [(mirror_word(word), number) for word, number in word_sum])


def is_mirrored(word_sum):
    """True if the sum equals its mirror."""
    return word_sum == mirrored(word_sum)


def unmirrored_word(word_sum):
    """The first word that has not the number of its mirror word, with both words and numbers, or None."""
    difference = word_sum - mirrored(word_sum)
    if not difference:
        return None
    word, _ = difference.terms[0]
    other = mirror_word(word)
    return (word, word_sum.coefficient(word), other, word_sum.coefficient(other))


def unmirrored_ranks(order):
    """The first rank set that has not the signed count of its complement, with both, or None."""
    betas = betas_of_alphas(alphas(order))
    for ranks, number in betas.pairs():
        other = complement(ranks, order.weight)
        if number != betas[other]:
            return (ranks, number, other, betas[other])
    return None


def unmirrored_stretch(order):
    """The first stretch whose letter sum is not mirrored, with what `unmirrored_word` tells of it, or None."""
    return first_stretch(order, unmirrored_word)

"""Basis orders, sums in c and d told as combinations of theirs, and sums that some counts do not show."""

from math import gcd

from evenodds.absum import betas_of_sum
from evenodds.cdwords import cd_count, cd_words, spread
from evenodds.counts import alpha, alphas_of_betas
from evenodds.errors import MOST_HEIGHT, InvalidRanks, InvalidWeight, TooHigh, TooMany
from evenodds.orders import Order
from evenodds.products import laid
from evenodds.ranksets import check_ranks, is_rank_set
from evenodds.words import WordSum, check_sum_letters, single, word_weight

MOST_HIDDEN_WEIGHT = 6


def pair_order():
    """The order of a least and a greatest thing."""
    return Order(["least", "greatest"], [("least", "greatest")])


def line_order():
    """The order of two middle things between a least and a greatest one."""
    return Order(
        ["least", "v0", "v1", "greatest"],
        [("least", "v0"), ("least", "v1"), ("v0", "greatest"), ("v1", "greatest")],
    )


def triangle_order():
    """The order of the corners and the edges of a triangle between a least and a greatest thing."""
    return Order(
        ["least", "v0", "v1", "v2", "e0", "e1", "e2", "greatest"],
        [
            ("least", "v0"), ("least", "v1"), ("least", "v2"),
            ("v0", "e0"), ("v1", "e0"), ("v1", "e1"), ("v2", "e1"), ("v0", "e2"), ("v2", "e2"),
            ("e0", "greatest"), ("e1", "greatest"), ("e2", "greatest"),
        ],
    )


def letter_order(letter):
    """The basis order of a word of one letter."""
    return line_order() if letter == "c" else triangle_order()


def basis_order(word):
    """The basis order of the word in c and d."""
    height = word_weight("cd", word) + 1
    if height > MOST_HEIGHT:
        raise TooHigh(height)
    if word == "":
        return pair_order()
    found = letter_order(word[0])
    for letter in word[1:]:
        found = laid(found, letter_order(letter))
    return found


def with_squares(word_sum, factor):
    """The sum of letters cd with d and `factor` times cc in the place of each d."""
    images = {"c": [("c", 1)], "d": [("d", 1), ("cc", factor)]}
    terms = []
    for word, number in word_sum:
        parts = [("", number)]
        for letter in word:
            parts = [(start + end, size * times) for start, size in parts for end, times in images[letter]]
        terms.extend(parts)
    return WordSum("cd", word_sum.weight, terms)


def basis_sum(word):
    """The c-d sum of the basis order of the word, also for a word that is too long for an order."""
    return with_squares(single("cd", word), 1)


def combination(word_sum):
    """The pairs (word, integer other than 0) whose basis sums, so many times each, make the sum of letters cd."""
    check_sum_letters(word_sum, "cd")
    # A basis sum has cc + d for each d, so d alone is what stands for d, less what stands for cc.
    return with_squares(word_sum, -1).terms


def rebuilt(weight, pairs):
    """The total of the basis sums of the words, so many times each as the pairs tell."""
    return with_squares(WordSum("cd", weight, pairs), 1)


def alphas_of_cd(word_sum):
    """The `Counts` of an even order whose c-d sum this is, for any sum of letters cd."""
    return alphas_of_betas(betas_of_sum(spread(word_sum)))


def alpha_of_cd(word_sum, ranks):
    """The count at the rank set of an even order whose c-d sum this is, for any sum of letters cd."""
    return alphas_of_cd(word_sum)[tuple(ranks)]


def reduced(word_sum):
    """The sum of letters cd divided by the greatest common divisor of its numbers."""
    common = 0
    for _, number in word_sum:
        common = gcd(common, number)
    return WordSum("cd", word_sum.weight, [(word, number // common) for word, number in word_sum])


def cleared(sums, ranks):
    """Sums that the list spans, one less than it has at most, all with the count 0 at the rank set."""
    numbers = [alpha_of_cd(word_sum, ranks) for word_sum in sums]
    shown = [at for at, number in enumerate(numbers) if number != 0]
    if not shown:
        return sums
    taken = shown[0]
    mixed = [numbers[taken] * word_sum - number * sums[taken] for word_sum, number in zip(sums, numbers)]
    # Without a common divisor the numbers stay small.
    return [reduced(word_sum) for at, word_sum in enumerate(mixed) if at != taken]


def hidden_sum(weight, rank_sets):
    """A sum of letters cd other than zero whose count is 0 at each of the rank sets."""
    if not 0 <= weight <= MOST_HIDDEN_WEIGHT:
        raise InvalidWeight(weight)
    for ranks in rank_sets:
        check_ranks(ranks, weight)
    different = {tuple(ranks): True for ranks in rank_sets}
    most = cd_count(weight) - 1
    if len(different) > most:
        raise TooMany("rank sets", most)
    found = [single("cd", word) for word in cd_words(weight)]
    for ranks in different:
        found = cleared(found, ranks)
    return found[0]


def is_hidden(word_sum, rank_sets):
    """True if the sum is a hidden sum for the rank sets; the lists of ranks may be any."""
    if word_sum.letters != "cd" or not word_sum:
        return False
    if not all([is_rank_set(ranks, word_sum.weight) for ranks in rank_sets]):
        return False
    counts = alphas_of_cd(word_sum)
    return all([counts[tuple(ranks)] == 0 for ranks in rank_sets])


def heaps(word_sum):
    """The heaps of the words of the combination with positive and with negative integers, without their signs."""
    pairs = combination(word_sum)
    plus = tuple([(word, times) for word, times in pairs if times > 0])
    minus = tuple([(word, -times) for word, times in pairs if times < 0])
    return (plus, minus)


def heap_alpha(heap, ranks):
    """The total of the counts of the basis orders of the heap at the rank set."""
    weights = {word: word_weight("cd", word) for word, _ in heap}
    if not all([is_rank_set(ranks, weight) for weight in weights.values() if weight < MOST_HEIGHT]):
        raise InvalidRanks(ranks)
    numbers = {word: alpha(basis_order(word), ranks) for word in weights}
    return sum([times * numbers[word] for word, times in heap])

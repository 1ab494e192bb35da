"""What splitting, pyramids and prisms do to word sums."""

from evenodds.absum import stretch_sum
from evenodds.counts import check_height
from evenodds.errors import UnlikeSums
from evenodds.ranksets import check_weight
from evenodds.words import LETTER_WEIGHTS, WordSum, check_like_letters, check_sum_letters, collected, single


def split_rows(terms):
    """The sorted tuples (left, right, total number) of a list of pairs ((left, right), number)."""
    return tuple([(left, right, number) for (left, right), number in collected(terms)])


def splits(word_sum):
    """The parts before and after each letter of each word, with the numbers of the words."""
    check_sum_letters(word_sum, "ab")
    return split_rows([
        ((word[:at], word[at + 1:]), number) for word, number in word_sum for at in range(len(word))
    ])


def top_splits(order, top):
    """The pairs of words of the stretches below and above the middle thing, with the products of their numbers."""
    lower = stretch_sum(order, order.least, top)
    upper = stretch_sum(order, top, order.greatest)
    return [((left, right), number * times) for left, number in lower for right, times in upper]


def splits_by_tops(order):
    """What `splits` gives for the letter sum of the order, from the stretches below and above its middle things."""
    check_height(order)
    return split_rows([term for top in order.names[1:-1] for term in top_splits(order, top)])


def check_images(word_sum, first, second):
    """Raise UnlikeSums if the two sums cannot stand for the two letters of the sum, with a weight more."""
    check_like_letters(word_sum, first)
    check_like_letters(word_sum, second)
    for letter, image in zip(word_sum.letters, (first, second)):
        if image.weight != LETTER_WEIGHTS[letter] + 1:
            raise UnlikeSums("weight")


def lifted(word_sum, first, second):
    """The sum over all letters of all words, with `first` or `second` in the place of that one letter."""
    weight = word_sum.weight + 1
    check_weight(weight)
    check_images(word_sum, first, second)
    images = {letter: image.terms for letter, image in zip(word_sum.letters, (first, second))}
    terms = [
        (word[:at] + middle + word[at + 1:], number * times)
        for word, number in word_sum
        for at, letter in enumerate(word)
        for middle, times in images[letter]
    ]
    return WordSum(word_sum.letters, weight, terms)


def pyramid_sum(word_sum):
    """The letter sum, or c-d sum, of the pyramid of an order that has this sum."""
    if word_sum.letters == "cd":
        return word_sum * single("cd", "c") + lifted(word_sum, single("cd", "d"), single("cd", "cd"))
    ends = single("ab", "b") * word_sum + word_sum * single("ab", "a")
    return ends + lifted(word_sum, single("ab", "ab"), single("ab", "ab"))


def prism_sum(word_sum):
    """The letter sum, or c-d sum, of the prism of an order that has this sum."""
    letter = single("cd", "c") if word_sum.letters == "cd" else WordSum("ab", 1, [("a", 1), ("b", 1)])
    return 2 * pyramid_sum(word_sum) - letter * word_sum

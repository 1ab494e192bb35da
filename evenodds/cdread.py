"""Sums in a and b read as sums in c = a + b and d = ab + ba."""

from evenodds.absum import ab_sum, first_stretch
from evenodds.cdwords import cd_words, first_word, spread_words
from evenodds.errors import NotReadable
from evenodds.words import WordSum, check_sum_letters


def reading(word_sum):
    """The sum of letters cd and the rest, without first words, that together make the sum of letters ab."""
    check_sum_letters(word_sum, "ab")
    left = {word: number for word, number in word_sum}
    terms = []
    # A first word is the least word of its spread, and first words ascend as their words do; so what is
    # taken for a word leaves the numbers of all earlier first words alone.
    for word in cd_words(word_sum.weight):
        number = left.get(first_word(word), 0)
        terms.append((word, number))
        for told in spread_words(word):
            left[told] = left.get(told, 0) - number
    return (WordSum("cd", word_sum.weight, terms), WordSum("ab", word_sum.weight, list(left.items())))


def is_reading(word_sum, cd_part, rest):
    """True if the two are the reading of the sum; the three word sums may be any."""
    return word_sum.letters == "ab" and reading(word_sum) == (cd_part, rest)


def unread_term(word_sum):
    """The first term of the rest, or None if the sum is readable."""
    _, rest = reading(word_sum)
    return rest.terms[0] if rest else None


def is_readable(word_sum):
    """True if the sum is that of a sum of letters cd."""
    return unread_term(word_sum) is None


def read_cd(word_sum):
    """The sum of letters cd that stands for the sum of letters ab."""
    cd_part, rest = reading(word_sum)
    if rest:
        word, number = rest.terms[0]
        raise NotReadable(word, number)
    return cd_part


def cd_sum(order):
    """The letter sum of the order, read in c and d."""
    return read_cd(ab_sum(order))


def unread_stretch(order):
    """The first stretch whose letter sum is not readable, with the first term of the rest, or None."""
    return first_stretch(order, unread_term)

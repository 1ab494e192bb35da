"""Orders of rearrangements of the first digits."""

from itertools import permutations

from evenodds.bounds import check_size
from evenodds.errors import InvalidWord, NotBelow
from evenodds.orders import Order
from evenodds.products import check_count

DIGITS = "12345"
MOST_REARRANGED = 4


def check_rearrangement(word):
    """Raise InvalidWord if the text is not a rearrangement."""
    size = len(word)
    if not 1 <= size <= len(DIGITS) or sorted(word) != list(DIGITS[:size]):
        raise InvalidWord(word)


def check_rearrangements(first, second):
    """Raise InvalidWord if the texts are not two rearrangements of one size."""
    check_rearrangement(first)
    check_rearrangement(second)
    if len(first) != len(second):
        raise InvalidWord(second)


def swap_count(word):
    """The number of pairs of characters of a rearrangement of which the earlier one is the larger digit."""
    return len([early for at, early in enumerate(word) for late in word[at + 1:] if early > late])


def swaps(word):
    """The number of pairs of characters of which the earlier one is the larger digit."""
    check_rearrangement(word)
    return swap_count(word)


def is_start_at_most(first, second):
    """True if the sorted characters of the first text are at most those of the second one, one by one."""
    return all([low <= high for low, high in zip(sorted(first), sorted(second))])


def is_word_at_most(first, second):
    """True if one rearrangement is at most another of the same size."""
    return all([is_start_at_most(first[:many], second[:many]) for many in range(1, len(first) + 1)])


def is_at_most(first, second):
    """True if the first rearrangement is at most the second one."""
    check_rearrangements(first, second)
    return is_word_at_most(first, second)


def rearrangement_stretch(low, high):
    """The order of all rearrangements from the low one to the high one."""
    check_rearrangements(low, high)
    if not is_word_at_most(low, high):
        raise NotBelow(low, high)
    digits = DIGITS[:len(low)]
    words = ["".join(characters) for characters in permutations(digits)]
    names = [word for word in words if is_word_at_most(low, word) and is_word_at_most(word, high)]
    check_count(len(names))
    ranks = {name: swap_count(name) for name in names}
    # The number of swaps is the rank, so a cover is where it goes up by one.
    covers = [(x, y) for x in names for y in names if ranks[y] == ranks[x] + 1 and is_word_at_most(x, y)]
    return Order(names, covers)


def rearrangements(size):
    """The order of all rearrangements of the first so many digits."""
    check_size(size, 1, MOST_REARRANGED)
    digits = DIGITS[:size]
    return rearrangement_stretch(digits, digits[::-1])

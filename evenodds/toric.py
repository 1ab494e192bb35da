"""Rows of numbers: the long and the short row of an order, and those of word sums."""

from evenodds.absum import betas_of_sum
from evenodds.bounds import check_size
from evenodds.cdwords import spread
from evenodds.counts import alphas_of_betas, check_height
from evenodds.errors import MOST_HEIGHT, WrongCount


def check_filled(row):
    """Raise WrongCount if the row has no item."""
    if len(row) == 0:
        raise WrongCount(1, 0)


def times_rows(first, second):
    """The product of two rows, zeros kept."""
    check_filled(first)
    check_filled(second)
    found = [0] * (len(first) + len(second) - 1)
    for at, number in enumerate(first):
        for other, factor in enumerate(second):
            found[at + other] += number * factor
    return tuple(found)


def minus_row(exponent):
    """The row of a power of x - 1."""
    check_size(exponent, 0, MOST_HEIGHT)
    found = (1,)
    for _ in range(exponent):
        found = times_rows(found, (-1, 1))
    return found


def cut_row(numbers):
    """The differences of neighbours in the first half of the row, the middle item counted to it."""
    check_filled(numbers)
    half = (len(numbers) - 1) // 2 + 1
    return tuple([number - before for before, number in zip([0, *numbers], numbers[:half])])


def unmirrored_item(numbers):
    """The first place whose item differs from the one as far from the end, with both items, or None."""
    for at, (first, second) in enumerate(zip(numbers, numbers[::-1])):
        if first != second:
            return (at, first, second)
    return None


def filled_up(row, size):
    """The row with zeros behind it, so many items in all."""
    return row + (0,) * (size - len(row))


def total_row(rows, size):
    """The sum of the rows, each of so many items."""
    return tuple([sum([row[at] for row in rows]) for at in range(size)])


def parts_below(order, shorts, top, degree):
    """The pairs of each thing below `top` with its short row times the power of x - 1 that fills up the degree."""
    parts = [
        (low, times_rows(row, minus_row(degree - order.rank(low))))
        for low, row in shorts.items()
        if order.is_below(low, top)
    ]
    return [(low, filled_up(part, degree + 1)) for low, part in parts]


def short_rows(order):
    """A dict from each thing to the short row of the stretch from the least thing to it."""
    found = {order.least: (1,)}
    for top in order.names[1:]:
        degree = order.rank(top) - 1
        parts = parts_below(order, found, top, degree)
        found[top] = cut_row(total_row([part for _, part in parts], degree + 1))
    return found


def long_parts(order):
    """The pairs of each thing but the greatest, by place, and what it adds to the long row."""
    check_height(order)
    return tuple(parts_below(order, short_rows(order), order.greatest, order.weight))


def long_row(order):
    """The long row of the order."""
    return total_row([part for _, part in long_parts(order)], order.height)


def short_row(order):
    """The short row of the order."""
    return short_rows(order)[order.greatest]


def short_turn(order):
    """What is the short row, filled up with zeros and read backwards, if the order is even."""
    parts = [times_rows(row, minus_row(order.height - order.rank(top))) for top, row in short_rows(order).items()]
    size = order.height + 1
    return total_row([filled_up(part, size) for part in parts], size)


def long_of_ranks(ranks, weight):
    """The long row of the word that has the letter b at these ranks and e = a - b elsewhere."""
    if len(ranks) == 0:
        return minus_row(weight)
    last = ranks[-1]
    before = cut_row(long_of_ranks(ranks[:-1], last - 1))
    return filled_up(times_rows(before, minus_row(weight - last)), weight + 1)


def long_of_sum(word_sum):
    """The long row of every order that has this letter sum or c-d sum."""
    letters = spread(word_sum) if word_sum.letters == "cd" else word_sum
    # With a = e + b, the number of a word of e and b is the total over the words with b at some of its places.
    counts = alphas_of_betas(betas_of_sum(letters))
    rows = [times_rows(long_of_ranks(ranks, counts.weight), [number]) for ranks, number in counts.pairs()]
    return total_row(rows, counts.weight + 1)


def short_of_sum(word_sum):
    """The short row of every order that has this letter sum or c-d sum."""
    return cut_row(long_of_sum(word_sum))

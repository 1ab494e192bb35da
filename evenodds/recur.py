"""Letter sums and c-d sums of an order from those of the stretches from its least thing up."""

from evenodds.absum import stretch_sum
from evenodds.cdread import read_cd
from evenodds.counts import check_height
from evenodds.evencheck import check_even
from evenodds.words import WordSum, added, power, single, zero_sum


def minus_power(exponent):
    """The power of a - b."""
    return power(WordSum("ab", 1, [("a", 1), ("b", -1)]), exponent)


def square_power(exponent):
    """The power of cc - 2d, which is that of a - b with twice the exponent."""
    return power(WordSum("cd", 2, [("cc", 1), ("d", -2)]), exponent)


def top_part(order, top):
    """What the middle thing adds to the letter sum of the order."""
    lower = stretch_sum(order, order.least, top)
    return lower * single("ab", "b") * minus_power(order.weight - order.rank(top))


def top_parts(order):
    """The pairs of each middle thing, by place, and what it adds to the letter sum of the order."""
    check_height(order)
    return tuple([(top, top_part(order, top)) for top in order.names[1:-1]])


def ab_sum_by_tops(order):
    """The letter sum of the order from those of the stretches below its middle things."""
    check_height(order)
    return added(minus_power(order.weight), [part for _, part in top_parts(order)])


def doubled_part(order, top):
    """What the middle thing adds to twice the c-d sum of an even order."""
    lower = read_cd(stretch_sum(order, order.least, top))
    above = order.weight - order.rank(top)
    if above % 2 == 0:
        return lower * single("cd", "c") * square_power(above // 2)
    return -(lower * square_power((above + 1) // 2))


def doubled_cd(order):
    """Twice the c-d sum of an even order, from those of the stretches below its middle things."""
    check_height(order)
    check_even(order)
    ends = 2 * square_power(order.weight // 2) if order.weight % 2 == 0 else zero_sum("cd", order.weight)
    return added(ends, [doubled_part(order, top) for top in order.names[1:-1]])


def cd_by_tops(order):
    """The c-d sum of an even order from those of the stretches below its middle things."""
    return doubled_cd(order).halved()

"""Orders and sums with their second telling, that several of the search tests share."""

import random

from evenodds.products import laid, prism, product, pyramid
from plain_counts import Told
from samples import crooked, diamond, full, line, one, random_orders, some_sums, triangle, two


def even_orders():
    """Even orders of several kinds, most of them made from smaller ones."""
    small = [two(), diamond(), triangle(), full(2, 2), full(2, 2, 2)]
    return small + [laid(triangle(), diamond()), product(diamond(), two()), pyramid(triangle()), prism(diamond()),
                    product(triangle(), two())]


def many_orders(count):
    """Each order with its second telling."""
    orders = [one(), line(3), line(6), crooked(), full(1, 2, 2)] + even_orders()
    orders += random_orders(random.Random(81), count)
    return [(order, Told(order.names, order.covers)) for order in orders]


def told_sum(word_sum):
    return (word_sum.letters, word_sum.weight, dict(word_sum.terms))


def many_sums(letters, weights, seed, count=6):
    source = random.Random(seed)
    return [word_sum for weight in weights for word_sum in some_sums(letters, weight, source, count)]

"""Whether each stretch of an order has as many things of even rank as of odd rank."""

from evenodds.errors import Uneven
from evenodds.stretches import names_stretch, stretch, stretches


def parity_counts(order, low, high):
    """The numbers of things of the stretch with even and with odd rank in the order."""
    ranks = [order.rank(name) for name in stretch(order, low, high)]
    evens = len([rank for rank in ranks if rank % 2 == 0])
    return (evens, len(ranks) - evens)


def uneven_paper(order, low, high):
    """The paper of a stretch of length 1 or more, or None if it is not uneven."""
    evens, odds = parity_counts(order, low, high)
    return (low, high, evens, odds) if evens != odds else None


def uneven_stretch(order):
    """The paper of the first uneven stretch, or None if there is none."""
    for low, high in stretches(order):
        paper = uneven_paper(order, low, high)
        if paper is not None:
            return paper
    return None


def uneven_stretches(order):
    """The papers of all uneven stretches."""
    papers = [uneven_paper(order, low, high) for low, high in stretches(order)]
    return tuple([paper for paper in papers if paper is not None])


def is_even(order):
    """True if no stretch of the order is uneven."""
    return uneven_stretch(order) is None


def check_even(order):
    """Raise Uneven with the first uneven stretch if the order is not even."""
    paper = uneven_stretch(order)
    if paper is not None:
        low, high, evens, odds = paper
        raise Uneven(low, high, evens, odds)


def is_uneven_paper(order, paper):
    """True if the value is the paper of an uneven stretch of the order; it may be any value."""
    return names_stretch(order, paper, 4) and paper == uneven_paper(order, paper[0], paper[1])

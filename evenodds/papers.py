"""Papers that tell why an order is even, or that it is not, and their judges."""

from evenodds.absum import stretch_sum
from evenodds.cdread import cd_sum, read_cd
from evenodds.evencheck import check_even, is_even, is_uneven_paper, uneven_stretch
from evenodds.stretches import check_small, stretches


def verdict(order):
    """The c-d sum of an even order, or the first uneven stretch of another one, as a tuple."""
    paper = uneven_stretch(order)
    if paper is not None:
        return ("uneven", *paper)
    return ("even", cd_sum(order).terms if order.height > 0 else ())


def is_verdict(order, paper):
    """True if the value, which may be any, tells of the order what is true."""
    if not isinstance(paper, tuple) or len(paper) == 0:
        return False
    if paper[0] == "uneven":
        return is_uneven_paper(order, paper[1:])
    return paper == verdict(order)


def full_paper(order):
    """The terms of the c-d sums of all stretches of length 1 or more of an even order."""
    check_small(order)
    check_even(order)
    return tuple([(low, high, read_cd(stretch_sum(order, low, high)).terms) for low, high in stretches(order)])


def is_full_paper(order, paper):
    """True if the value, which may be any, is the full paper of the order."""
    check_small(order)
    # Only an even order has such a paper, and it has no other one.
    return is_even(order) and paper == full_paper(order)

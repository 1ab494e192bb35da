"""Labels on the covers of an order, and the full chains whose labels rise or fall."""

from evenodds.bounds import check_size
from evenodds.counts import Counts, check_ascending, check_height
from evenodds.errors import MOST_CHAINS, MissingCover, TooMany, WrongCount
from evenodds.faces import corners_of, simplex
from evenodds.orders import check_known
from evenodds.products import pair_name, product, turned
from evenodds.stretches import check_small, length, names_stretch, stretch, stretches

MOST_LABEL = 9
MOST_LABELLINGS = 256


def check_label_count(order, labels):
    """Raise WrongCount if the dict has not as many keys as the order has covers."""
    if len(labels) != len(order.covers):
        raise WrongCount(len(order.covers), len(labels))


def check_label_covers(order, labels):
    """Raise MissingCover for the first key of the dict that is not a cover of the order."""
    covers = {pair: True for pair in order.covers}
    for lower, upper in labels:
        if (lower, upper) not in covers:
            raise MissingCover(lower, upper)


def check_labels(order, labels):
    """Raise WrongCount or MissingCover if the dict is no labelling of the order."""
    check_label_count(order, labels)
    check_label_covers(order, labels)


def path_count(order, names):
    """The number of full chains of the stretch that has these names, by place."""
    counts = {names[0]: 1}
    for name in names[1:]:
        counts[name] = sum([counts[lower] for lower in order.lowers(name) if lower in counts])
    return counts[names[-1]]


def full_chains(order, low, high):
    """All chains from the low to the high thing in which each thing is covered by the next, ascending by places."""
    names = stretch(order, low, high)
    if path_count(order, names) > MOST_CHAINS:
        raise TooMany("chains", MOST_CHAINS)
    found = [(low,)]
    for _ in range(length(order, low, high)):
        found = [(*chain, name) for chain in found for name in order.uppers(chain[-1]) if name in names]
    return tuple(found)


def row_of(labels, chain):
    """The labels of the covers between neighbours of the chain."""
    return tuple([labels[pair] for pair in zip(chain, chain[1:])])


def label_row(order, labels, things):
    """The labels of the covers between neighbours, for a list of names each covered by the next."""
    check_known(order, things)
    check_labels(order, labels)
    for lower, upper in zip(things, things[1:]):
        if (lower, upper) not in labels:
            raise MissingCover(lower, upper)
    return row_of(labels, things)


def falls(row):
    """The places, counted from 1, where the next item is less."""
    return tuple([place for place, (item, after) in enumerate(zip(row, row[1:]), start=1) if after < item])


def rising(order, labels, low, high):
    """The full chains of the stretch whose rows fall nowhere; the labelling is good."""
    return tuple([chain for chain in full_chains(order, low, high) if falls(row_of(labels, chain)) == ()])


def rising_chains(order, labels, low, high):
    """The full chains of the stretch whose rows fall nowhere."""
    check_known(order, (low, high))
    check_labels(order, labels)
    return rising(order, labels, low, high)


def falling_chains(order, labels, low, high):
    """The full chains of the stretch whose rows fall everywhere."""
    check_known(order, (low, high))
    check_labels(order, labels)
    chains = full_chains(order, low, high)
    everywhere = tuple(range(1, length(order, low, high)))
    return tuple([chain for chain in chains if falls(row_of(labels, chain)) == everywhere])


def unsingle_paper(order, labels, low, high):
    """The paper of a stretch of length 1 or more, or None if it has exactly one rising chain."""
    rows = tuple([row_of(labels, chain) for chain in rising(order, labels, low, high)])
    return (low, high, rows) if len(rows) != 1 else None


def first_unsingle(order, labels):
    """The paper of the first stretch that has not exactly one rising chain, or None; the labelling is good."""
    for low, high in stretches(order):
        paper = unsingle_paper(order, labels, low, high)
        if paper is not None:
            return paper
    return None


def unsingle_stretch(order, labels):
    """The paper of the first stretch that has not exactly one rising chain, or None."""
    check_labels(order, labels)
    check_small(order)
    return first_unsingle(order, labels)


def is_single(order, labels):
    """True if each stretch of length 1 or more has exactly one rising chain."""
    return unsingle_stretch(order, labels) is None


def is_unsingle_paper(order, labels, paper):
    """True if the value is the paper of a stretch that has not exactly one rising chain; it may be any value."""
    check_labels(order, labels)
    check_small(order)
    return names_stretch(order, paper, 3) and paper == unsingle_paper(order, labels, paper[0], paper[1])


def fall_counts(order, labels):
    """The `Counts` of the full chains of the order, each counted at the places where its row falls."""
    check_height(order)
    check_labels(order, labels)
    check_small(order)
    table = {}
    for chain in full_chains(order, order.least, order.greatest):
        places = falls(row_of(labels, chain))
        table[places] = table.get(places, 0) + 1
    return Counts(order.weight, table)


def risen_chain(order, labels, things):
    """The one full chain through the things whose row rises between them, or None if there is not just one."""
    check_known(order, things)
    check_height(order)
    check_labels(order, labels)
    path = (order.least, *things, order.greatest)
    check_ascending(order, path)
    check_small(order)
    found = path[:1]
    for low, high in zip(path, path[1:]):
        pieces = rising(order, labels, low, high)
        if len(pieces) != 1:
            return None
        found = found + pieces[0][1:]
    return found


def labelling_count(order, most):
    """The number of labellings of the order with labels from 1 to `most`."""
    found = 1
    for _ in order.covers:
        found = found * most
    return found


def find_labels(order, *, most):
    """The first labelling with labels from 1 to `most` that is single, or None."""
    check_size(most, 1, MOST_LABEL)
    if labelling_count(order, most) > MOST_LABELLINGS:
        raise TooMany("labels", MOST_LABELLINGS)
    check_small(order)
    rows = [()]
    for _ in order.covers:
        rows = [(*row, label) for row in rows for label in range(1, most + 1)]
    for row in rows:
        labels = {pair: label for pair, label in zip(order.covers, row)}
        if first_unsingle(order, labels) is None:
            return labels
    return None


def product_labels(left, left_labels, right, right_labels):
    """The labelling of the product: even labels where a cover goes up on the left, odd ones on the right."""
    check_label_count(left, left_labels)
    check_label_count(right, right_labels)
    check_label_covers(left, left_labels)
    check_label_covers(right, right_labels)
    found = {}
    for (lower, upper), label in left_labels.items():
        low, high = left.place(lower), left.place(upper)
        for other in range(right.size):
            found[(pair_name(low, other), pair_name(high, other))] = 2 * label
    for (lower, upper), label in right_labels.items():
        low, high = right.place(lower), right.place(upper)
        for at in range(left.size):
            found[(pair_name(at, low), pair_name(at, high))] = 2 * label + 1
    return {pair: found[pair] for pair in product(left, right).covers}


def turned_labels(order, labels):
    """The labelling of the turned order in which each cover has its label times -1."""
    check_labels(order, labels)
    return {(lower, upper): -labels[(upper, lower)] for lower, upper in turned(order).covers}


def new_corner(lower, upper):
    """The corner that the upper face of a simplex has and the lower one lacks."""
    return [corner for corner in corners_of(upper) if corner not in corners_of(lower)][0]


def corner_labels(size):
    """The labelling of the simplex by the corner that the upper face has and the lower one lacks."""
    return {(lower, upper): new_corner(lower, upper) for lower, upper in simplex(size).covers}

"""Edits: small changes of an order, told as tuples."""

from evenodds.errors import DuplicateName, InvalidEdit, MissingCover
from evenodds.orders import Order, check_are_names, check_known
from evenodds.relations import renamed

# The first item of each form, and its number of items.
FORMS = (("add", 4), ("drop", 2), ("cover", 3), ("uncover", 3), ("rename", 3))


def check_form(edit):
    """Raise InvalidEdit if the edit has none of the five forms."""
    # A tuple is searched, since the first item may be a list, which no dict takes as a key.
    if len(edit) == 0 or (edit[0], len(edit)) not in FORMS:
        raise InvalidEdit(edit)


def with_thing(order, name, lowers, uppers):
    """The order with a thing more; all errors of "add" are those of `Order`."""
    below = tuple([(lower, name) for lower in lowers])
    above = tuple([(name, upper) for upper in uppers])
    return Order(order.names + (name,), order.covers + below + above)


def without_thing(order, name):
    """The order without a thing and its covers."""
    check_known(order, (name,))
    names = [other for other in order.names if other != name]
    return Order(names, [pair for pair in order.covers if name not in pair])


def with_cover(order, lower, upper):
    """The order with a cover more; all errors of "cover" are those of `Order`."""
    return Order(order.names, order.covers + ((lower, upper),))


def without_cover(order, lower, upper):
    """The order with a cover less."""
    check_known(order, (lower, upper))
    if (lower, upper) not in order.covers:
        raise MissingCover(lower, upper)
    return Order(order.names, [pair for pair in order.covers if pair != (lower, upper)])


def with_new_name(order, old, new):
    """The order in which the thing `old` is named `new`."""
    check_are_names((new,))
    if new in order and new != old:
        raise DuplicateName(new)
    check_known(order, (old,))
    return renamed(order, [new if name == old else name for name in order.names])


def apply_edit(order, edit):
    """The order that the edit makes of `order`."""
    check_form(edit)
    if edit[0] == "add":
        return with_thing(order, edit[1], edit[2], edit[3])
    if edit[0] == "drop":
        return without_thing(order, edit[1])
    if edit[0] == "cover":
        return with_cover(order, edit[1], edit[2])
    if edit[0] == "uncover":
        return without_cover(order, edit[1], edit[2])
    return with_new_name(order, edit[1], edit[2])


def inverse_edit(order, edit):
    """An edit that turns the edited order back into one that is alike to `order`."""
    # An edit that raises an error has no inverse: the error is raised here, too.
    apply_edit(order, edit)
    if edit[0] == "add":
        return ("drop", edit[1])
    if edit[0] == "drop":
        return ("add", edit[1], order.lowers(edit[1]), order.uppers(edit[1]))
    if edit[0] == "cover":
        return ("uncover", edit[1], edit[2])
    if edit[0] == "uncover":
        return ("cover", edit[1], edit[2])
    return ("rename", edit[2], edit[1])


def apply_edits(order, edits):
    """The order after all edits of the list, each applied to the result of the one before."""
    current = order
    for edit in edits:
        current = apply_edit(current, edit)
    return current

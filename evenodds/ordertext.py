"""Orders and edits as texts, and read back from them."""

from evenodds.edits import FORMS, check_form
from evenodds.errors import InvalidText
from evenodds.orders import Order, check_are_names, is_name

# What stands in the text of an edit for an empty list; a dot is not a name.
NO_NAMES = "."


def order_line(name, uppers):
    """The line of a thing, with the things that cover it."""
    return name + ":" + "".join([" " + upper for upper in uppers])


def format_order(order):
    """The text of the order: the lines of its things, by place."""
    return "\n".join([order_line(name, order.uppers(name)) for name in order.names])


def read_line(line):
    """The name of a line and the list of the names behind its colon, or None if the line is not good."""
    name, colon, groups = line.partition(":")
    # Each group brings its own space, so nothing may stand before the first one.
    before, *uppers = groups.split(" ")
    if colon == "" or before != "" or not all([is_name(text) for text in [name, *uppers]]):
        return None
    return (name, uppers)


def parse_order(text):
    """The order of a text, whose lines and upper names may stand in any sequence."""
    names = []
    covers = []
    for number, line in enumerate(text.split("\n"), start=1):
        told = read_line(line)
        if told is None:
            raise InvalidText(number)
        name, uppers = told
        names.append(name)
        covers.extend([(name, upper) for upper in uppers])
    return Order(names, covers)


def edit_names(edit):
    """All names of an edit of one of the five forms, in the sequence of its text."""
    if edit[0] == "add":
        return (edit[1], *edit[2], *edit[3])
    return tuple(edit[1:])


def list_text(names):
    """The part of a text that tells a list of names."""
    return ",".join(names) if len(names) > 0 else NO_NAMES


def read_list(part):
    """The tuple of what should be names in a part that tells a list."""
    return () if part == NO_NAMES else tuple(part.split(","))


def format_edit(edit):
    """The text of the edit, which is judged without an order."""
    check_form(edit)
    check_are_names(edit_names(edit))
    if edit[0] == "add":
        return " ".join(["add", edit[1], list_text(edit[2]), list_text(edit[3])])
    return " ".join(edit)


def parse_edit(line):
    """The edit of a text, as a tuple."""
    parts = tuple(line.split(" "))
    if (parts[0], len(parts)) not in FORMS:
        raise InvalidText(1)
    edit = parts
    if parts[0] == "add":
        edit = ("add", parts[1], read_list(parts[2]), read_list(parts[3]))
    if not all([is_name(name) for name in edit_names(edit)]):
        raise InvalidText(1)
    return edit

"""What the document says of orders and edits, told a second time, slowly and without the program.

Each function collects all errors that are due and takes the one whose class is listed first; so it
depends in no way on the sequence in which the program judges its arguments.
"""

import re

SEQUENCE = (
    "InvalidQuestion InvalidLetters InvalidWeight InvalidSize InvalidText InvalidEdit InvalidName DuplicateName "
    "UnknownName EndStruck InvalidWord TooLow InvalidRanks InvalidFacet WrongCount UnlikeSums DuplicateCover "
    "MissingCover NotBelow NotClosed BadBorder TooMany RingFound NoEnd WrongRank TooHigh Uneven OddNumber "
    "NotReadable NoStep"
).split()


def first_listed(due):
    """The error, as (label, attributes), whose class is listed first; the earlier one of equal classes."""
    return min(due, key=lambda error: SEQUENCE.index(error[0]))


def good_name(text):
    return re.fullmatch(r"[a-z0-9-]{1,24}", text) is not None


def closure(names, pairs):
    """The set of all (x, y) with a path of one or more pairs from x to y."""
    found = {tuple(pair) for pair in pairs}
    for middle in names:
        for x in names:
            for y in names:
                if (x, middle) in found and (middle, y) in found:
                    found.add((x, y))
    return found


def longest(pairs, name):
    """The number of pairs in a longest path that ends at the name; there is no ring."""
    return max([longest(pairs, lower) + 1 for lower, upper in pairs if upper == name], default=0)


def name_errors(names):
    due = [("InvalidName", (name,)) for name in names if not good_name(name)]
    due += [("DuplicateName", (name,)) for at, name in enumerate(names) if name in names[:at]]
    return due


def order_errors(names, covers):
    """All errors of point [8] that are due, those of one class in the sequence that the point tells."""
    names, covers = list(names), [tuple(pair) for pair in covers]
    due = name_errors(names)
    due += [("UnknownName", (name,)) for pair in covers for name in pair if name not in names]
    due += [("DuplicateCover", pair) for at, pair in enumerate(covers) if pair in covers[:at]]
    if len(names) > 40:
        due.append(("TooMany", ("things", 40)))
    if due:
        return due
    below = closure(names, covers)
    due += [("RingFound", (name,)) for name in names if (name, name) in below]
    if len([name for name in names if name not in [upper for _, upper in covers]]) != 1:
        due.append(("NoEnd", ("least",)))
    if len([name for name in names if name not in [lower for lower, _ in covers]]) != 1:
        due.append(("NoEnd", ("greatest",)))
    if due:
        return due
    ranks = {name: longest(covers, name) for name in names}
    due += [("WrongRank", pair) for pair in covers if ranks[pair[1]] != ranks[pair[0]] + 1]
    if max(ranks.values()) > 9:
        due.append(("TooHigh", (max(ranks.values()),)))
    return due


def order_answer(names, covers):
    """("order", names, covers) by place, or the error as ("error", label, attributes)."""
    names, covers = list(names), [tuple(pair) for pair in covers]
    due = order_errors(names, covers)
    if due:
        return ("error",) + first_listed(due)
    ranks = {name: longest(covers, name) for name in names}
    names = sorted(names, key=lambda name: (ranks[name], names.index(name)))
    places = {name: place for place, name in enumerate(names)}
    covers.sort(key=lambda pair: (places[pair[0]], places[pair[1]]))
    return ("order", tuple(names), tuple(covers))


def relation_answer(names, pairs):
    """What `order_from_relations` gives by point [11], in the form of `order_answer`."""
    names, pairs = list(names), [tuple(pair) for pair in pairs]
    early = [error for error in order_errors(names, list(dict.fromkeys(pairs)))
             if error[0] not in ("NoEnd", "WrongRank", "TooHigh")]
    if early:
        return ("error",) + first_listed(early)
    below = closure(names, pairs)
    covers = [(x, y) for x in names for y in names
              if (x, y) in below and not [z for z in names if (x, z) in below and (z, y) in below]]
    return order_answer(names, covers)


WORDS = {"add": 4, "drop": 2, "cover": 3, "uncover": 3, "rename": 3}


def tuples_only(value):
    return tuple(map(tuples_only, value)) if isinstance(value, (list, tuple)) else value


def edit_answer(names, covers, edit):
    """What `apply_edit` gives by point [14], in the form of `order_answer`."""
    names, covers = list(names), [tuple(pair) for pair in covers]
    if len(edit) == 0 or not isinstance(edit[0], str) or WORDS.get(edit[0]) != len(edit):
        return ("error", "InvalidEdit", (tuples_only(edit),))
    word, parts = edit[0], list(edit[1:])
    due, new_name, asked = [], None, []
    if word == "add":
        new_name, asked = parts[0], [name for name in list(parts[1]) + list(parts[2]) if name != parts[0]]
    elif word == "drop":
        asked = parts
    elif word == "rename":
        new_name, asked = parts[1], parts[:1]
    else:
        asked = parts
    if new_name is not None and not good_name(new_name):
        due.append(("InvalidName", (new_name,)))
    if new_name in names and not (word == "rename" and parts[0] == new_name):
        due.append(("DuplicateName", (new_name,)))
    due += [("UnknownName", (name,)) for name in asked if name not in names]
    if word == "uncover" and not due and tuple(parts) not in covers:
        due.append(("MissingCover", tuple(parts)))
    if due:
        return ("error",) + first_listed(due)
    return order_answer(*edited_lists(names, covers, word, parts))


def edited_lists(names, covers, word, parts):
    """The lists from which point [14] has the new order made."""
    if word == "add":
        name, lowers, uppers = parts
        return names + [name], covers + [(x, name) for x in lowers] + [(name, x) for x in uppers]
    if word == "drop":
        return [name for name in names if name != parts[0]], [pair for pair in covers if parts[0] not in pair]
    if word == "cover":
        return names, covers + [tuple(parts)]
    if word == "uncover":
        return names, [pair for pair in covers if pair != tuple(parts)]
    old, new = parts
    return ([new if name == old else name for name in names],
            [tuple(new if name == old else name for name in pair) for pair in covers])

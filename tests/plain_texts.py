"""What the document says of the texts of orders and edits, told a second time, without the program."""

import re

from plain import first_listed, good_name, order_answer, tuples_only, WORDS

NAME = "[a-z0-9-]{1,24}"
LINE = re.compile(f"{NAME}:( {NAME})*")
LIST = rf"(\.|{NAME}(,{NAME})*)"
EDIT = re.compile(f"add {NAME} {LIST} {LIST}|drop {NAME}|(cover|uncover|rename) {NAME} {NAME}")


def order_text(names, covers):
    """The text by point [16]; the names and the covers stand by place."""
    return "\n".join(" ".join([f"{name}:"] + [high for low, high in covers if low == name]) for name in names)


def order_text_answer(text):
    """What `parse_order` gives, in the form of `order_answer`."""
    lines = text.split("\n")
    bad = [number for number, line in enumerate(lines, start=1) if LINE.fullmatch(line) is None]
    if bad:
        return ("error", "InvalidText", (bad[0],))
    names = [line.split(":")[0] for line in lines]
    return order_answer(names, [(line.split(":")[0], high) for line in lines for high in line.split()[1:]])


def edit_text_answer(edit):
    """What `format_edit` gives: ("value", text) or an error as in `order_answer`."""
    if len(edit) == 0 or not isinstance(edit[0], str) or WORDS.get(edit[0]) != len(edit):
        return ("error", "InvalidEdit", (tuples_only(edit),))
    lists = [part if isinstance(part, (list, tuple)) else [part] for part in edit[1:]]
    wrong = [("InvalidName", (name,)) for names in lists for name in names if not good_name(name)]
    if wrong:
        return ("error",) + first_listed(wrong)
    parts = [",".join(names) if names else "." for names in lists]
    return ("value", " ".join([edit[0]] + parts))


def read_edit_answer(line):
    """What `parse_edit` gives, in the form of `edit_text_answer`."""
    if EDIT.fullmatch(line) is None:
        return ("error", "InvalidText", (1,))
    word, name, *rest = line.split(" ")
    if word == "add":
        rest = [tuple(re.findall(NAME, part)) for part in rest]
    return ("value", (word, name, *rest))

"""What the document says of engines and scripts, told again: a list of orders, and a form for each kind of line."""

import re

from evenodds.bruhat import rearrangements
from evenodds.crossing import crossing
from evenodds.edits import apply_edit
from evenodds.faces import cross, cube, polygon, simplex
from evenodds.orders import Order
from evenodds.ordertext import parse_edit
from evenodds.products import prism, pyramid, turned
from plain_counts import Told, alphas_table, uneven_papers
from plain_reads import read_answer, sparse
from plain_sums import letter_sum, sum_text
from plain_texts import EDIT, LIST, order_text

MAKERS = {"turned": turned, "pyramid": pyramid, "prism": prism}
BODIES = {"polygon": polygon, "simplex": simplex, "cube": cube, "cross": cross, "rearrangements": rearrangements}
ASK = re.compile("ask ([^ ]+)")
MAKE = re.compile("make ([^ ]+)")
BODY = re.compile("body ([^ ]+) (0|[1-9][0-9]?)")
CROSS = re.compile(f"cross {LIST}")


class Wrong(Exception):
    """The label of an error."""


def asked(order, question):
    """The text of [74], or an error."""
    told = Told(order.names, order.covers)
    papers = uneven_papers(told)
    if question in ("letters", "sum", "few") and told.height == 0:
        raise Wrong("TooLow")
    if question == "size":
        return str(len(told.names))
    if question == "height":
        return str(told.height)
    if question == "even":
        return "no" if papers else "yes"
    if question == "order":
        return order_text(told.names, told.covers)
    if question == "letters":
        return sum_text(letter_sum(told))
    if question == "few":
        return " ".join(str(number) for ranks, number in alphas_table(told).items() if sparse(ranks))
    if question == "verdict" and papers:
        return " ".join(("uneven",) + tuple(map(str, papers[0])))
    if question == "verdict" and told.height == 0:
        return "even"
    if question not in ("verdict", "sum"):
        raise Wrong("InvalidQuestion")
    due = read_answer(letter_sum(told))
    if due[0] == "error":
        raise Wrong(due[1])
    return ("even " if question == "verdict" else "") + sum_text((due[1], due[2], dict(due[3])))


def changed(order, line):
    """The order that a line makes of the current one."""
    if MAKE.fullmatch(line):
        word = MAKE.fullmatch(line)[1]
        if word not in MAKERS:
            raise Wrong("InvalidQuestion")
        return MAKERS[word](order)
    if BODY.fullmatch(line):
        word, number = BODY.fullmatch(line).groups()
        if word not in BODIES:
            raise Wrong("InvalidQuestion")
        return BODIES[word](int(number))
    if CROSS.fullmatch(line):
        part = line.split(" ")[1]
        return crossing(order, [] if part == "." else part.split(","))
    if EDIT.fullmatch(line):
        return apply_edit(order, parse_edit(line))
    raise Wrong("InvalidText")


def script_answers(text, start):
    """What `run` gives."""
    orders, at, answers = [start or Order(["x"], [])], 0, []
    for line in text.split("\n"):
        try:
            if ASK.fullmatch(line):
                answers.append(asked(orders[at], ASK.fullmatch(line)[1]))
                continue
            if line in ("undo", "redo"):
                at += -1 if line == "undo" else 1
                if not 0 <= at < len(orders):
                    at += 1 if line == "undo" else -1
                    raise Wrong("NoStep")
            elif line:
                orders = orders[:at + 1] + [changed(orders[at], line)]
                at += 1
            answers += ["ok"] if line else []
        except Wrong as error:
            answers.append(f"error {error}")
        except ValueError as error:
            answers.append(f"error {error.label}")
    return tuple(answers)

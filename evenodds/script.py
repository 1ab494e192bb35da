"""Scripts: texts whose lines an engine does one after another."""

from evenodds.bruhat import rearrangements
from evenodds.engine import Engine
from evenodds.errors import EvenOddsError, InvalidQuestion, InvalidText
from evenodds.faces import cross, cube, polygon, simplex
from evenodds.orders import Order, is_name
from evenodds.ordertext import parse_edit, read_list

OK = "ok"


def body(word, size):
    """The order that a `body` line tells."""
    if word == "polygon":
        return polygon(size)
    if word == "simplex":
        return simplex(size)
    if word == "cube":
        return cube(size)
    if word == "cross":
        return cross(size)
    if word == "rearrangements":
        return rearrangements(size)
    raise InvalidQuestion(word)


def read_number(part):
    """The number of a part of one or two digits without a leading zero; raises InvalidText."""
    if not part.isdigit() or len(part) > 2 or str(int(part)) != part:
        raise InvalidText(1)
    return int(part)


def read_closed(part):
    """The names of a part that tells a list; raises InvalidText."""
    names = read_list(part)
    if not all([is_name(name) for name in names]):
        raise InvalidText(1)
    return names


def do_line(engine, line):
    """The answer to a line that is not empty, which is done; raises the error of a line that cannot be done."""
    parts = line.split(" ")
    form = (parts[0], len(parts))
    # A missing word between or behind spaces is an empty part, which none of these forms has.
    if "" in parts:
        raise InvalidText(1)
    if form == ("ask", 2):
        return engine.ask(parts[1])
    if form == ("undo", 1):
        engine.undo()
    elif form == ("redo", 1):
        engine.redo()
    elif form == ("make", 2):
        engine.make(parts[1])
    elif form == ("cross", 2):
        engine.cross(read_closed(parts[1]))
    elif form == ("body", 3):
        size = read_number(parts[2])
        engine.replace_by(body(parts[1], size))
    else:
        engine.do(parse_edit(line))
    return OK


def answer_of(engine, line):
    """The answer to a line that is not empty; the engine is as before if it is an error."""
    try:
        return do_line(engine, line)
    except EvenOddsError as error:
        return "error " + error.label


def asked(engine, line, kept):
    """The answer to a line that asks; what it is for equal orders is kept, as a script may ask the same often."""
    key = (line, engine.order.names, engine.order.covers)
    if key not in kept:
        kept[key] = answer_of(engine, line)
    return kept[key]


def run(text, *, start=None):
    """The answers to all lines of the text that are not empty, done one after another by one engine."""
    engine = Engine(Order(["x"], []) if start is None else start)
    kept = {}
    answers = []
    for line in text.split("\n"):
        if line.startswith("ask "):
            answers.append(asked(engine, line, kept))
        elif line != "":
            answers.append(answer_of(engine, line))
    return tuple(answers)

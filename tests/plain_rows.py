"""What the document says of labels, sign rows, papers, engines and scripts, told again, slowly.

An order is told as `plain_counts.Told`, a word sum as in plain_sums.py. Answers have the form of `samples.answer`.
"""

import itertools
import re

from plain import good_name, relation_answer
from plain_counts import all_rank_sets, counts_answer, end_errors, error_answer, stretch_pairs, uneven_papers
from plain_reads import SQUARE, plus, power_of, read_answer, scaled
from plain_sums import letter_sum, mu_number, stretch_of, sum_answer, times


def small_errors(told):
    return [("TooMany", ("things", 16))] if len(told.names) > 16 else []


def labelling_errors(told, labels):
    due = []
    if len(labels) != len(told.covers):
        due.append(("WrongCount", (len(told.covers), len(labels))))
    return due + [("MissingCover", pair) for pair in labels if pair not in told.covers]


def all_paths(told, low, high):
    """The full chains of a stretch, found by going down from the high end, and sorted by places."""
    if low == high:
        return [(low,)]
    found = [path + (high,) for lower, upper in told.covers if upper == high and told.at_most(low, lower)
             for path in all_paths(told, low, lower)]
    return sorted(found, key=lambda path: [told.names.index(name) for name in path])


def full_chains_answer(told, low, high):
    due = end_errors(told, low, high)
    if due:
        return error_answer(due)
    found = all_paths(told, low, high)
    return ("error", "TooMany", ("chains", 2000)) if len(found) > 2000 else ("value", tuple(found))


def labels_on(labels, path):
    return tuple(labels[pair] for pair in zip(path, path[1:]))


def label_row_answer(told, labels, things):
    due = [("UnknownName", (name,)) for name in things if name not in told.names] + labelling_errors(told, labels)
    due += [("MissingCover", pair) for pair in zip(things, things[1:]) if pair not in told.covers]
    return error_answer(due) if due else ("value", labels_on(labels, things))


def falls_of(row):
    return tuple(i for i in range(1, len(row)) if row[i] < row[i - 1])


def monotone_answer(told, labels, low, high, rising):
    """What `rising_chains` or `falling_chains` gives."""
    ends = full_chains_answer(told, low, high)
    due = labelling_errors(told, labels) + ([ends[1:]] if ends[0] == "error" else [])
    if due:
        return error_answer(due)
    return ("value", tuple(path for path in ends[1]
                           if len(falls_of(labels_on(labels, path))) == (0 if rising else max(len(path) - 2, 0))))


def rising_rows(told, labels, low, high):
    paths = [path for path in all_paths(told, low, high) if sorted(labels_on(labels, path)) ==
             list(labels_on(labels, path))]
    return tuple(labels_on(labels, path) for path in paths)


def unsingle_papers(told, labels):
    """All papers, in the stretch sequence."""
    papers = [(low, high, rising_rows(told, labels, low, high)) for low, high in stretch_pairs(told, 1)]
    return [paper for paper in papers if len(paper[2]) != 1]


def unsingle_answer(told, labels):
    due = labelling_errors(told, labels) + small_errors(told)
    return error_answer(due) if due else ("value", (unsingle_papers(told, labels) + [None])[0])


def fall_counts_answer(told, labels):
    due = [("TooLow", (0,))] if told.height == 0 else []
    due += labelling_errors(told, labels) + small_errors(told)
    if due:
        return error_answer(due)
    rows = [falls_of(labels_on(labels, path)) for path in all_paths(told, told.names[0], told.names[-1])]
    return counts_answer(told.height - 1, {ranks: rows.count(ranks) for ranks in rows})


def risen_answer(told, labels, things):
    due = [("UnknownName", (name,)) for name in things if name not in told.names]
    due += [("TooLow", (0,))] if told.height == 0 else []
    due += labelling_errors(told, labels) + small_errors(told)
    path = (told.names[0],) + tuple(things) + (told.names[-1],)
    due += [("NotBelow", pair) for pair in zip(path, path[1:])
            if pair not in told.below and set(pair) <= set(told.names)]
    if due:
        return error_answer(due)
    whole = [chain for chain in all_paths(told, path[0], path[-1]) if set(path) <= set(chain)]
    places = {told.ranks[name] for name in things}
    found = [chain for chain in whole if set(falls_of(labels_on(labels, chain))) <= places]
    # The chains through all of the things that rise between them are told by their pieces, each chosen freely.
    return ("value", found[0] if len(found) == 1 else None)


def find_answer(told, most):
    due = [] if most in range(1, 10) else [("InvalidSize", (most,))]
    due += [("TooMany", ("labels", 256))] if not due and most ** len(told.covers) > 256 else []
    due += small_errors(told)
    if due:
        return error_answer(due)
    for row in itertools.product(range(1, most + 1), repeat=len(told.covers)):
        labels = dict(zip(told.covers, row))
        if not unsingle_papers(told, labels):
            return ("table", tuple(labels.items()))
    return ("value", None)


SIGN_ROW = re.compile("[-0+]{0,6}")


def row_errors(rows):
    """The errors of [87] that are due for a list of rows."""
    due = [] if rows else [("WrongCount", (1, 0))]
    due += [("InvalidWord", (row,)) for at, row in enumerate(rows)
            if not SIGN_ROW.fullmatch(row) or len(row) != len(rows[0]) or row in rows[:at]]
    return due + ([("TooMany", ("rows", 40))] if len(rows) > 40 else [])


def text_errors(*texts):
    due = [("InvalidWord", (text,)) for text in texts if not SIGN_ROW.fullmatch(text)]
    if not due and len(texts) == 2 and len(texts[0]) != len(texts[1]):
        due.append(("InvalidWord", (texts[1],)))
    return due


def lot_of(row):
    return tuple(at for at in range(len(row)) if row[at] == "0")


def turn_signs(row):
    return row.replace("-", "x").replace("+", "-").replace("x", "+")


def put_signs(first, second):
    return "".join(first[at] if first[at] in "-+" else second[at] for at in range(len(first)))


def places_apart(first, second):
    return tuple(at for at in range(len(first)) if first[at] + second[at] in ("-+", "+-"))


def unclosed_answer(rows):
    due = row_errors(rows)
    if due:
        return error_answer(due)
    if "0" * len(rows[0]) not in rows:
        return ("value", ("zero",))
    faults = [("turned", row) for row in rows if turn_signs(row) not in rows]
    pairs = list(itertools.permutations(rows, 2))
    faults += [("put", x, y) for x, y in pairs if put_signs(x, y) not in rows]
    for x, y in pairs:
        apart = places_apart(x, y)
        for place in apart:
            fit = [row for row in rows if row[place] == "0" and
                   all(row[at] == put_signs(x, y)[at] for at in range(len(x)) if at not in apart)]
            faults += [] if fit else [("struck", x, y, place)]
    return ("value", (faults + [None])[0])


def row_text(row):
    return "r" + "".join({"-": "m", "0": "o", "+": "p"}[sign] for sign in row)


def face_answer(rows):
    due = row_errors(rows)
    if due:
        return error_answer(due)
    pairs = [(row_text(x), row_text(y)) for x in rows for y in rows
             if x != y and all(x[at] in ("0", y[at]) for at in range(len(x)))]
    return relation_answer(list(map(row_text, rows)) + ["top"], pairs + [(row_text(row), "top") for row in rows])


def lots_of(rows):
    return tuple(sorted({lot_of(row) for row in rows}, key=lambda lot: (-len(lot), lot)))


def zero_answer(rows):
    due = row_errors(rows)
    if due:
        return error_answer(due)
    names = {lot: "z" + "-".join(map(str, lot)) for lot in lots_of(rows)}
    return relation_answer(list(names.values()), [(names[x], names[y]) for x in names for y in names
                                                  if set(x) > set(y)])


def row_number(told, low, high):
    """The number of [91] for low at most high."""
    return sum((-1) ** (told.ranks[high] - told.ranks[z]) * mu_number(told.below, told.names, z, high)
               for z in told.between(low, high))


def row_count_answer(told, low, high):
    due = end_errors(told, low, high)
    return error_answer(due) if due else ("value", row_number(told, low, high))


def row_counts_answer(told):
    numbers = {pair: row_number(told, *pair) for pair in told.below}
    table = {}
    for ranks in all_rank_sets(told.height):
        levels = [[name for name in told.names if told.ranks[name] == rank] for rank in ranks]
        table[ranks] = 0
        for things in itertools.product(*levels):
            path = (told.names[0],) + things
            if all(pair in told.below for pair in zip(path, path[1:])):
                number = 1
                for pair in zip(path, path[1:]):
                    number *= numbers[pair]
                table[ranks] += number
    return counts_answer(told.height, table)


def lot_part(told, low):
    """What the rule of [92] gives for a thing."""
    high = told.names[-1]
    if low == high:
        return ("cd", 0, {"": 1})
    found = ("cd", told.ranks[high] - told.ranks[low], {})
    for name in told.names:
        if (low, name) in told.below:
            size = told.ranks[name] - told.ranks[low]
            step = power_of(SQUARE, size // 2)
            if size % 2 == 1:
                step = times(step, ("cd", 1, {"c": 1}))
            part = times(step, lot_part(told, name))
            found = plus(found, scaled(part, -mu_number(told.below, told.names, low, name)))
    return found


def undoubled_value(told):
    terms = [(word, number) for word, number in sorted(told[2].items()) if number % 2 ** word.count("d") != 0]
    return (terms + [None])[0]


def lot_matching_answer(rows, other, places):
    due = row_errors(rows) + row_errors(other)
    if due:
        return error_answer(due)
    pairs = [tuple(pair) for pair in places]
    for image in itertools.permutations(range(len(other[0]))):
        if len(image) == len(rows[0]) and sorted(pairs) == list(enumerate(image)):
            carried = {frozenset(image[place] for place in lot_of(row)) for row in rows}
            return ("value", carried == {frozenset(lot_of(row)) for row in other})
    return ("value", False)


def line_rows_answer(count):
    if count not in range(1, 7):
        return ("error", "InvalidSize", (count,))
    half = [("-" * count)[:j] + ("+" * count)[j:] for j in range(count)]
    half += [("-" * count)[:j] + "0" + ("+" * count)[j + 1:] for j in range(count)]
    return ("value", tuple(sorted(set(half) | set(map(turn_signs, half)) | {"0" * count})))


def joined_answer(first, second):
    due = row_errors(first) + row_errors(second)
    if not due and len(first[0]) + len(second[0]) > 6:
        due.append(("InvalidSize", (len(first[0]) + len(second[0]),)))
    if not due and len(first) * len(second) > 40:
        due.append(("TooMany", ("rows", 40)))
    return error_answer(due) if due else ("value", tuple(x + y for x in first for y in second))


def verdict_of(told):
    papers = uneven_papers(told)
    if papers:
        return ("uneven",) + papers[0]
    return ("even", () if told.height == 0 else read_answer(letter_sum(told))[3])


def full_paper_answer(told):
    due = small_errors(told) + [("Uneven", paper) for paper in uneven_papers(told)[:1]]
    if due:
        return error_answer(due)
    return ("value", tuple((low, high, read_answer(letter_sum(stretch_of(told, low, high)))[3])
                           for low, high in stretch_pairs(told, 1)))


def is_closed_part(part):
    """True if the part of a line tells a list of names."""
    return part == "." or all(map(good_name, part.split(",")))


def lot_sum_answer(told):
    return sum_answer(lot_part(told, told.names[0]))

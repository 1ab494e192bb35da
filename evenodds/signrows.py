"""Rows of signs, arrangements of them, and the orders and sums that belong to these."""

from evenodds.bounds import check_size
from evenodds.counts import chain_totals, sign_of
from evenodds.errors import InvalidSize, InvalidWord, TooMany, WrongCount
from evenodds.moebius import mu_table
from evenodds.recur import square_power
from evenodds.relations import order_from_relations
from evenodds.stretches import length, stretch, stretches
from evenodds.words import added, check_sum_letters, single, zero_sum

MOST_SIGNS = 6
MOST_ROWS = 40
MOST_LINES = 6
TOP = "top"
TURNED_SIGNS = {"-": "+", "0": "0", "+": "-"}


def check_sign_row(row):
    """Raise InvalidWord if the text is no sign row of a length that is allowed."""
    if len(row) > MOST_SIGNS or not all([sign in "-0+" for sign in row]):
        raise InvalidWord(row)


def check_sign_rows(first, second):
    """Raise InvalidWord if the texts are not two sign rows of one length."""
    check_sign_row(first)
    check_sign_row(second)
    if len(first) != len(second):
        raise InvalidWord(second)


def check_row_texts(rows):
    """Raise InvalidWord for the first text that is no sign row, has another length, or stands there already."""
    seen = set()
    for row in rows:
        check_sign_rows(rows[0], row)
        if row in seen:
            raise InvalidWord(row)
        seen.add(row)


def check_lists(lists):
    """Raise an error if one of the lists of rows is not good; the class of the error goes before the list."""
    for rows in lists:
        check_row_texts(rows)
    for rows in lists:
        if len(rows) == 0:
            raise WrongCount(1, 0)
    for rows in lists:
        if len(rows) > MOST_ROWS:
            raise TooMany("rows", MOST_ROWS)


def zero_lot(row):
    """The places of the row that have a zero."""
    check_sign_row(row)
    return tuple([place for place, sign in enumerate(row) if sign == "0"])


def differing(first, second):
    """The places where one of the two rows has a minus and the other one a plus."""
    check_sign_rows(first, second)
    return tuple([
        place for place, (sign, other) in enumerate(zip(first, second)) if sign != other and "0" not in (sign, other)
    ])


def turned_row(row):
    """The row with minus and plus exchanged."""
    check_sign_row(row)
    return "".join([TURNED_SIGNS[sign] for sign in row])


def put_on(first, second):
    """The first row with the signs of the second one at its zeros."""
    check_sign_rows(first, second)
    return "".join([other if sign == "0" else sign for sign, other in zip(first, second)])


def agree(row, other, places):
    """True if the two rows have the same sign at each of the places."""
    return all([row[place] == other[place] for place in places])


def unstruck_place(rows, first, second):
    """The least place where the two rows differ and no row of the list has the zero that is due, or None."""
    apart = differing(first, second)
    kept = [place for place in range(len(first)) if place not in apart]
    target = put_on(first, second)
    like = [row for row in rows if agree(row, target, kept)]
    for place in apart:
        if not any([row[place] == "0" for row in like]):
            return place
    return None


def unclosed(rows):
    """The first fault that keeps the list of rows from being an arrangement, or None."""
    check_lists([rows])
    held = {row: True for row in rows}
    if "0" * len(rows[0]) not in held:
        return ("zero",)
    for row in rows:
        if turned_row(row) not in held:
            return ("turned", row)
    pairs = [(first, second) for first in rows for second in rows if first != second]
    for first, second in pairs:
        if put_on(first, second) not in held:
            return ("put", first, second)
    for first, second in pairs:
        place = unstruck_place(rows, first, second)
        if place is not None:
            return ("struck", first, second, place)
    return None


def is_arrangement(rows):
    """True if the list of rows is an arrangement."""
    return unclosed(rows) is None


def row_name(row):
    """The name of the thing of a face order that belongs to the row."""
    return "r" + row.replace("-", "m").replace("0", "o").replace("+", "p")


def is_row_below(row, other):
    """True if the other row has all signs of the row but its zeros, and more."""
    return row != other and all([sign in ("0", over) for sign, over in zip(row, other)])


def face_order(rows):
    """The order of the rows, each below those that have a sign where it has a zero, and of a top above all."""
    check_lists([rows])
    pairs = [(row_name(row), row_name(other)) for row in rows for other in rows if is_row_below(row, other)]
    pairs.extend([(row_name(row), TOP) for row in rows])
    return order_from_relations([*[row_name(row) for row in rows], TOP], pairs)


def zero_lots(rows):
    """The different zero lots of the rows, the longer ones first, those of one length ascending."""
    check_lists([rows])
    lots = {zero_lot(row): True for row in rows}
    # Sorting keeps the sequence among lots of one length, also from the greatest length down.
    return tuple(sorted(sorted(list(lots)), key=len, reverse=True))


def lot_name(lot):
    """The name of the thing of a zero order that belongs to the lot."""
    return "z" + "-".join([str(place) for place in lot])


def is_lot_below(lot, other):
    """True if the lot holds all places of the other one, and more."""
    return lot != other and all([place in lot for place in other])


def zero_order(rows):
    """The order of the zero lots of the rows, the longer ones below."""
    lots = zero_lots(rows)
    pairs = [(lot_name(lot), lot_name(other)) for lot in lots for other in lots if is_lot_below(lot, other)]
    return order_from_relations([lot_name(lot) for lot in lots], pairs)


def row_total(order, table, low, high):
    """The total of `row_count`, with the table of all Moebius numbers of the order."""
    return sum([sign_of(length(order, name, high)) * table[(name, high)] for name in stretch(order, low, high)])


def row_count(order, low, high):
    """The number of rows of the zero lot `high` that stand over a row of the zero lot `low`."""
    return row_total(order, mu_table(order), low, high)


def factor_total(order, factors, before, high):
    """The total of the numbers of all things below, each times the factor of the two."""
    return sum([before[low] * factors[(low, high)] for low in before if order.is_below(low, high)])


def row_counts(order):
    """The `Counts` of the face order whose zero order this is."""
    table = mu_table(order)
    factors = {(low, high): row_total(order, table, low, high) for low, high in stretches(order)}
    return chain_totals(order, order.height, lambda before, high: factor_total(order, factors, before, high))


def step_sum(size):
    """The sum of letters cd, of the weight `size`, for a step up by so many ranks."""
    powers = square_power(size // 2)
    return powers if size % 2 == 0 else powers * single("cd", "c")


def lot_sum(order):
    """The c-d sum of the face order whose zero order this is."""
    table = mu_table(order)
    found = {order.greatest: single("cd", "")}
    for low in order.names[:-1][::-1]:
        rank = order.rank(low)
        total = zero_sum("cd", order.height - rank)
        for size in range(1, order.height - rank + 1):
            above = [name for name in order.at_rank(rank + size) if order.is_below(low, name)]
            parts = [table[(low, name)] * found[name] for name in above]
            total = total - step_sum(size) * added(zero_sum("cd", order.height - rank - size), parts)
        found[low] = total
    return found[order.least]


def undoubled_term(word_sum):
    """The first term whose number is not a multiple of 2 for each letter d of its word, or None."""
    check_sum_letters(word_sum, "cd")
    for word, number in word_sum:
        if number % (1 << word.count("d")) != 0:
            return (word, number)
    return None


def is_lot_matching(rows, other, places):
    """True if the pairs of places carry the zero lots of the rows one to one onto those of the other rows."""
    check_lists([rows, other])
    image = {first: second for first, second in places}
    if len(places) != len(rows[0]) or sorted(list(image)) != list(range(len(rows[0]))):
        return False
    if sorted(list(image.values())) != list(range(len(other[0]))):
        return False
    carried = [tuple(sorted([image[place] for place in lot])) for lot in zero_lots(rows)]
    return sorted(carried) == sorted(zero_lots(other))


def line_rows(count):
    """The rows of the parts into which so many lines through one point cut the plane."""
    check_size(count, 1, MOST_LINES)
    rows = ["0" * count]
    for at in range(count):
        beside = "+" * (count - at - 1)
        found = ["-" * at + "+" + beside, "-" * at + "0" + beside]
        rows.extend([*found, *[turned_row(row) for row in found]])
    return tuple(sorted(set(rows)))


def joined_rows(first, second):
    """The rows of the first list, each followed by each row of the second one."""
    check_lists([first, second])
    size = len(first[0]) + len(second[0])
    if size > MOST_SIGNS:
        raise InvalidSize(size)
    if len(first) * len(second) > MOST_ROWS:
        raise TooMany("rows", MOST_ROWS)
    return tuple([row + other for row in first for other in second])

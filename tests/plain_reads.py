"""What the document says of readings, tops, few numbers, balance, orders made from orders and letter rules, told again.

The values are told as in plain_sums.py. Where the document says that there is exactly one value, it is found here by
solving the equations that the document tells, with fractions.
"""

from fractions import Fraction
from itertools import product

from plain import relation_answer
from plain_counts import all_rank_sets, error_answer, uneven_papers
from plain_sums import letter_sum, spread_of, stretch_of, sum_answer, sum_of, times, words_of


def solved(rows, numbers):
    """The one list x of integers with rows * x == numbers."""
    rows = [[Fraction(item) for item in row] + [Fraction(number)] for row, number in zip(rows, numbers)]
    for at in range(len(rows)):
        pivot = next(k for k in range(at, len(rows)) if rows[k][at] != 0)
        rows[at], rows[pivot] = rows[pivot], rows[at]
        rows[at] = [item / rows[at][at] for item in rows[at]]
        for k, row in enumerate(rows):
            if k != at:
                rows[k] = [item - row[at] * top for item, top in zip(row, rows[at])]
    assert all(row[-1].denominator == 1 for row in rows)
    return [int(row[-1]) for row in rows]


def minus(first, second):
    return plus(first, scaled(second, -1))


def plus(first, second):
    return sum_of(first[0], first[1], list(first[2].items()) + list(second[2].items()))


def scaled(told, factor):
    return sum_of(told[0], told[1], [(word, factor * number) for word, number in told[2].items()])


def first_of(word):
    return word.replace("c", "a").replace("d", "ab")


def reading_of(told):
    """The pair of [40] for a told sum of letters ab."""
    words = words_of("cd", told[1])
    spreads = [spread_of(("cd", told[1], {word: 1}))[2] for word in words]
    rows = [[table.get(first_of(word), 0) for table in spreads] for word in words]
    numbers = solved(rows, [told[2].get(first_of(word), 0) for word in words])
    part = sum_of("cd", told[1], list(zip(words, numbers)))
    return part, minus(told, spread_of(part))


def unread_term(told):
    rest = reading_of(told)[1]
    return sorted(rest[2].items())[0] if rest[2] else None


def read_answer(told):
    if told[0] != "ab":
        return ("error", "InvalidLetters", (told[0],))
    term = unread_term(told)
    return sum_answer(reading_of(told)[0]) if term is None else ("error", "NotReadable", term)


def power_of(base, exponent):
    found = (base[0], 0, {"": 1})
    for _ in range(exponent):
        found = times(found, base)
    return found


MINUS = ("ab", 1, {"a": 1, "b": -1})
SQUARE = ("cd", 2, {"cc": 1, "d": -2})


def tops_of(told):
    """The pairs of [43]."""
    found = []
    for top in told.middle:
        lower = letter_sum(stretch_of(told, told.names[0], top))
        above = power_of(MINUS, told.height - 1 - told.ranks[top])
        found.append((top, times(times(lower, ("ab", 1, {"b": 1})), above)))
    return found


def low_errors(told):
    return [("TooLow", (0,))] if told.height == 0 else []


def doubled_answer(told):
    due = low_errors(told) + [("Uneven", paper) for paper in uneven_papers(told)[:1]]
    if due:
        return error_answer(due)
    weight = told.height - 1
    found = ("cd", weight, {})
    if weight % 2 == 0:
        found = scaled(power_of(SQUARE, weight // 2), 2)
    for top in told.middle:
        lower = reading_of(letter_sum(stretch_of(told, told.names[0], top)))[0]
        above = weight - told.ranks[top]
        if above % 2 == 0:
            part = times(lower, times(("cd", 1, {"c": 1}), power_of(SQUARE, above // 2)))
        else:
            part = scaled(times(lower, power_of(SQUARE, (above + 1) // 2)), -1)
        found = plus(found, part)
    return sum_answer(found)


def sparse(ranks):
    return 1 not in ranks and not any(rank + 1 in ranks for rank in ranks)


def counts_of_sum(told):
    """The counts that belong to the signed counts of a told sum of letters ab: those of all words within."""
    found = {}
    for ranks in all_rank_sets(told[1]):
        found[ranks] = sum(number for word, number in told[2].items()
                           if {at for at, letter in enumerate(word, start=1) if letter == "b"} <= set(ranks))
    return found


def told_back_table(weight, numbers):
    """The table of the one `Counts` of [46]."""
    sets = [ranks for ranks in all_rank_sets(weight) if sparse(ranks)]
    words = words_of("cd", weight)
    tables = [counts_of_sum(spread_of(("cd", weight, {word: 1}))) for word in words]
    found = solved([[table[ranks] for table in tables] for ranks in sets], numbers)
    part = sum_of("cd", weight, list(zip(words, found)))
    return counts_of_sum(spread_of(part))


def balance_answer(weight, table, ranks, low):
    due = []
    if tuple(ranks) not in all_rank_sets(weight):
        due.append(("InvalidRanks", (tuple(ranks),)))
    elif low != 0 and low not in ranks:
        due.append(("InvalidSize", (low,)))
    if due:
        return error_answer(due)
    high = min([rank for rank in ranks if rank > low], default=weight + 1)
    left = sum((-1) ** (j - low - 1) * table[tuple(sorted(ranks + (j,)))] for j in range(low + 1, high))
    return ("value", (left, (high - low + 1) % 2 * 2 * table[tuple(ranks)]))


def broken_value(weight, table):
    for ranks in all_rank_sets(weight):
        for low in [0] + sorted(ranks):
            left, right = balance_answer(weight, table, ranks, low)[1]
            if left != right:
                return (ranks, low, left, right)
    return None


def bound_errors(count, height):
    due = [("TooMany", ("things", 40))] if count > 40 else []
    return due + ([("TooHigh", (height,))] if height > 9 else [])


def turned_answer(told):
    return relation_answer(told.names, [(high, low) for low, high in told.covers])


def laid_answer(lower, upper):
    due = low_errors(lower) + low_errors(upper)
    due += bound_errors(len(lower.names) + len(upper.names) - 2, lower.height + upper.height - 1)
    if due:
        return error_answer(due)
    under = {name: f"l{at}" for at, name in enumerate(lower.names[:-1])}
    over = {name: f"u{at}" for at, name in enumerate(upper.names) if at > 0}
    pairs = [(under[x], under[y]) for x, y in lower.below if y in under]
    pairs += [(over[x], over[y]) for x, y in upper.below if x in over]
    pairs += product(under.values(), over.values())
    return relation_answer(list(under.values()) + list(over.values()), pairs)


def product_answer(left, right):
    due = bound_errors(len(left.names) * len(right.names), left.height + right.height)
    if due:
        return error_answer(due)
    things = {(x, y): f"x{i}-{j}" for i, x in enumerate(left.names) for j, y in enumerate(right.names)}
    pairs = [(things[low], things[high]) for low, high in product(things, repeat=2)
             if low != high and left.at_most(low[0], high[0]) and right.at_most(low[1], high[1])]
    return relation_answer(list(things.values()), pairs)


def pyramid_answer(told):
    due = bound_errors(2 * len(told.names), told.height + 1)
    if due:
        return error_answer(due)
    places = {name: at for at, name in enumerate(told.names)}
    pairs = [(f"b{places[x]}", f"t{places[y]}") for x, y in product(told.names, repeat=2) if told.at_most(x, y)]
    for letter in "bt":
        pairs += [(f"{letter}{places[x]}", f"{letter}{places[y]}") for x, y in told.below]
    return relation_answer([f"{letter}{at}" for letter in "bt" for at in places.values()], pairs)


def prism_answer(told):
    due = low_errors(told) + bound_errors(3 * len(told.names) - 2, told.height + 1)
    if due:
        return error_answer(due)
    places = {name: at for at, name in enumerate(told.names) if at > 0}
    names = ["n"] + [f"{letter}{at}" for letter in "fgw" for at in places.values()]
    pairs = [("n", name) for name in names[1:]]
    for letter in "fgw":
        pairs += [(f"{letter}{places[x]}", f"{letter}{places[y]}") for x, y in told.below if x in places]
    for letter in "fg":
        pairs += [(f"{letter}{places[x]}", f"w{places[y]}") for x, y in product(places, repeat=2) if told.at_most(x, y)]
    return relation_answer(names, pairs)


def rows_of(terms):
    """The sorted tuples of [55] from terms ((left, right), number)."""
    keys = sorted({key for key, _ in terms})
    totals = [(left, right, sum(number for key, number in terms if key == (left, right))) for left, right in keys]
    return tuple(row for row in totals if row[2] != 0)


def splits_of(told):
    return rows_of([((word[:at], word[at + 1:]), number)
                    for word, number in told[2].items() for at in range(len(word))])


def splits_by_tops_of(told):
    terms = []
    for top in told.middle:
        lower = letter_sum(stretch_of(told, told.names[0], top))[2]
        upper = letter_sum(stretch_of(told, top, told.names[-1]))[2]
        terms += [((u, v), x * y) for u, x in lower.items() for v, y in upper.items()]
    return rows_of(terms)


def lifted_answer(told, first, second):
    due = [("InvalidWeight", (told[1] + 1,))] if told[1] > 8 else []
    if not told[0] == first[0] == second[0]:
        due.append(("UnlikeSums", ("letters",)))
    elif first[1] != 2 or second[1] != (2 if told[0] == "ab" else 3):
        due.append(("UnlikeSums", ("weight",)))
    if due:
        return error_answer(due)
    found = (told[0], told[1] + 1, {})
    for word, number in told[2].items():
        for at, letter in enumerate(word):
            image = first if letter in "ac" else second
            before, after = one_word(told[0], word[:at], number), one_word(told[0], word[at + 1:], 1)
            found = plus(found, times(times(before, image), after))
    return sum_answer(found)


def one_word(letters, word, number):
    return (letters, len(word) + word.count("d"), {word: number})


def pyramid_of(told):
    """The told sum of [57] for a sum of weight 8 at most."""
    letters = told[0]
    if letters == "ab":
        image = one_word("ab", "ab", 1)
        found = plus(times(one_word("ab", "b", 1), told), times(told, one_word("ab", "a", 1)))
        lift = lifted_answer(told, image, image)
    else:
        found = times(told, one_word("cd", "c", 1))
        lift = lifted_answer(told, one_word("cd", "d", 1), one_word("cd", "cd", 1))
    return plus(found, (letters, told[1] + 1, dict(lift[3])))


def prism_of(told):
    letter = ("ab", 1, {"a": 1, "b": 1}) if told[0] == "ab" else ("cd", 1, {"c": 1})
    return minus(scaled(pyramid_of(told), 2), times(letter, told))

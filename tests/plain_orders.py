"""What the document says of basis orders, faces, rearrangements, crossings and rows of numbers, told again, slowly.

An order is told as `plain_counts.Told`, a word sum as in plain_sums.py. Answers have the form of `samples.answer`.
"""

from itertools import combinations, permutations, product

from plain import relation_answer
from plain_counts import Told, alpha_answer, all_rank_sets, error_answer
from plain_reads import counts_of_sum, laid_answer, plus, scaled, solved
from plain_sums import spread_of, stretch_of, sum_of, times, weight_of, words_of


def told_answer(answer):
    """The order of an answer of the form ("order", names, covers)."""
    assert answer[0] == "order"
    return Told(*answer[1:])


def letter_answer(letter):
    if letter == "c":
        names = ["least", "v0", "v1", "greatest"]
        return relation_answer(names, [("least", "v0"), ("v1", "greatest"), ("least", "v1"), ("v0", "greatest")])
    names = "least v0 v1 v2 e0 e1 e2 greatest".split()
    sides = {"e0": "v0 v1", "e1": "v1 v2", "e2": "v0 v2"}
    pairs = [(corner, side) for side, corners in sides.items() for corner in corners.split()]
    pairs += [("least", corner) for corner in names[1:4]] + [(side, "greatest") for side in sides]
    return relation_answer(names, pairs)


def basis_answer(word):
    """What `basis_order` gives."""
    if set(word) - set("cd"):
        return ("error", "InvalidWord", (word,))
    if weight_of(word) > 8:
        return ("error", "TooHigh", (weight_of(word) + 1,))
    if word == "":
        return ("order", ("least", "greatest"), (("least", "greatest"),))
    if len(word) == 1:
        return letter_answer(word)
    return laid_answer(told_answer(basis_answer(word[:-1])), told_answer(letter_answer(word[-1])))


def basis_of(word):
    """The told sum of `basis_sum` for a word of weight 9 at most."""
    found = ("cd", 0, {"": 1})
    for letter in word:
        found = times(found, ("cd", 1, {"c": 1}) if letter == "c" else ("cd", 2, {"cc": 1, "d": 1}))
    return found


def combination_of(told):
    """The pairs of [60], found by solving for them."""
    words = words_of("cd", told[1])
    tables = [basis_of(word)[2] for word in words]
    numbers = solved([[table.get(word, 0) for table in tables] for word in words],
                     [told[2].get(word, 0) for word in words])
    return tuple((word, number) for word, number in zip(words, numbers) if number != 0)


def rebuilt_of(weight, pairs):
    found = sum_of("cd", weight, [])
    for word, number in pairs:
        found = plus(found, scaled(basis_of(word), number))
    return found


def alpha_of(told, ranks):
    """The number of [61] for a told sum of letters cd."""
    return counts_of_sum(spread_of(told))[tuple(ranks)]


def is_hidden_value(told, rank_sets):
    sets = [tuple(ranks) for ranks in rank_sets]
    if told[0] != "cd" or not told[2] or not set(sets) <= set(all_rank_sets(told[1])):
        return False
    return all(alpha_of(told, ranks) == 0 for ranks in sets)


def heap_alpha_answer(heap, ranks):
    due = [("InvalidWord", (word,)) for word, _ in heap if set(word) - set("cd")]
    good = [word for word, _ in heap if not set(word) - set("cd")]
    if any(weight_of(word) <= 8 and tuple(ranks) not in all_rank_sets(weight_of(word)) for word in good):
        due.append(("InvalidRanks", (tuple(ranks),)))
    due += [("TooHigh", (weight_of(word) + 1,)) for word in good if weight_of(word) > 8]
    if due:
        return error_answer(due)
    return ("value", sum(number * alpha_answer(told_answer(basis_answer(word)), ranks)[1] for word, number in heap))


def face_text(corners):
    return "f" + "-".join(map(str, corners))


def faces_answer(corner_count, facets):
    """What `faces_of` gives."""
    if corner_count not in range(10):
        return ("error", "InvalidSize", (corner_count,))
    facets = [tuple(facet) for facet in facets]
    due = [("InvalidFacet", (facet,)) for at, facet in enumerate(facets)
           if facet not in [c for size in range(10) for c in combinations(range(corner_count), size)]
           or facet in facets[:at]]
    if len(facets) > 12:
        due.append(("TooMany", ("facets", 12)))
    if due:
        return error_answer(due)
    faces = {frozenset(range(corner_count))}
    for many in range(1, len(facets) + 1):
        faces |= {frozenset.intersection(*map(frozenset, some)) for some in combinations(facets, many)}
    if len(faces) > 40:
        return ("error", "TooMany", ("things", 40))
    listed = sorted((len(face), tuple(sorted(face))) for face in faces)
    names = {frozenset(corners): face_text(corners) for _, corners in listed}
    return relation_answer(list(names.values()), [(names[x], names[y]) for x in names for y in names if x < y])


def cube_answer(size):
    if size not in range(4):
        return ("error", "InvalidSize", (size,))
    texts = ["".join(text) for text in product("01x", repeat=size)]
    pairs = [("none", "c" + text) for text in texts]
    pairs += [("c" + v, "c" + w) for v in texts for w in texts
              if v != w and all(x == y or y == "x" for x, y in zip(v, w))]
    return relation_answer(["none"] + ["c" + text for text in texts], pairs)


def cross_answer(size):
    if size not in range(4):
        return ("error", "InvalidSize", (size,))
    texts = ["".join(text) for text in product("mop", repeat=size)]
    pairs = [("k" + text, "whole") for text in texts]
    pairs += [("k" + v, "k" + w) for v in texts for w in texts
              if v != w and all(x == y or x == "o" for x, y in zip(v, w))]
    return relation_answer(["k" + text for text in texts] + ["whole"], pairs)


def simplex_answer(size):
    if size not in range(6):
        return ("error", "InvalidSize", (size,))
    corners = range(size)
    faces = [face for many in range(size + 1) for face in combinations(corners, many)]
    pairs = [(face_text(x), face_text(y)) for x in faces for y in faces if set(x) < set(y)]
    return relation_answer(list(map(face_text, faces)), pairs)


def polygon_answer(size):
    if size not in range(2, 20):
        return ("error", "InvalidSize", (size,))
    names = ["none"] + [f"v{k}" for k in range(size)] + [f"e{k}" for k in range(size)] + ["whole"]
    pairs = [("none", f"v{k}") for k in range(size)] + [(f"e{k}", "whole") for k in range(size)]
    for k in range(size):
        pairs += [(f"v{k}", f"e{k}"), (f"v{k + 1 if k + 1 < size else 0}", f"e{k}")]
    return relation_answer(names, pairs)


def is_rearranged(text):
    return any(tuple(text) in permutations("12345"[:size]) for size in range(1, 6))


def pair_errors(first, second):
    due = [("InvalidWord", (text,)) for text in (first, second) if not is_rearranged(text)]
    if not due and len(first) != len(second):
        due.append(("InvalidWord", (second,)))
    return due


def swap_number(word):
    return sum(word[i] > word[j] for i in range(len(word)) for j in range(i + 1, len(word)))


def word_at_most(first, second):
    """The comparison of [66], by how many of the first digits are at least some digit."""
    return all(sum(x >= digit for x in first[:m]) <= sum(x >= digit for x in second[:m])
               for m in range(len(first) + 1) for digit in "12345")


def at_most_answer(first, second):
    due = pair_errors(first, second)
    return error_answer(due) if due else ("value", word_at_most(first, second))


def words_between_answer(low, high):
    """What `rearrangement_stretch` gives."""
    due = pair_errors(low, high)
    if due:
        return error_answer(due)
    words = ["".join(word) for word in permutations(sorted(low))]
    words = [word for word in words if word_at_most(low, word) and word_at_most(word, high)]
    due = [] if word_at_most(low, high) else [("NotBelow", (low, high))]
    due += [("TooMany", ("things", 40))] if len(words) > 40 else []
    if due:
        return error_answer(due)
    return relation_answer(words, [(x, y) for x in words for y in words if x != y and word_at_most(x, y)])


def is_closed_value(told, things):
    return set(things) <= set(told.names) and all(low in things for low, high in told.below if high in things)


def closure_answer(told, things):
    due = [("UnknownName", (name,)) for name in things if name not in told.names]
    if due:
        return error_answer(due)
    return ("value", tuple(name for name in told.names if any(told.at_most(name, high) for high in things)))


def border_errors(told, closed):
    due = [("UnknownName", (name,)) for name in closed if name not in told.names]
    if due:
        return due
    due = [("NotClosed", (high, low)) for high in closed for low in told.names
           if (low, high) in told.below and low not in closed]
    if not closed:
        due.append(("BadBorder", ("empty",)))
    if set(closed) == set(told.names):
        due.append(("BadBorder", ("all",)))
    return due


def crossing_rows(told, closed):
    """The crossing stretches (name, x, y) by the places of their ends."""
    return [(f"s{i}-{j}", x, y) for i, x in enumerate(told.names) for j, y in enumerate(told.names)
            if x in closed and y not in closed and (x, y) in told.below]


def crossing_answer(told, closed):
    due = border_errors(told, closed)
    rows = crossing_rows(told, closed)
    if not due and len(rows) + 1 > 40:
        due = [("TooMany", ("things", 40))]
    if due:
        return error_answer(due)
    pairs = [(name, other) for name, x, y in rows for other, v, w in rows
             if name != other and told.at_most(x, v) and told.at_most(w, y)]
    names = [name for name, _, _ in rows]
    return relation_answer(names + ["top"], pairs + [(name, "top") for name in names])


def crossing_ends_answer(told, closed):
    found = crossing_answer(told, closed)
    if found[0] == "error":
        return found
    ends = {row[0]: row for row in crossing_rows(told, closed)}
    return ("value", tuple(ends[name] for name in found[1] if name != "top"))


def border_answer(told, closed):
    due = border_errors(told, closed)
    if due:
        return error_answer(due)
    return ("value", tuple((x, y) for x, y in told.covers if x in closed and y not in closed))


def times_of(first, second):
    """The product of two rows that are not empty."""
    return [sum(first[i] * second[k - i] for i in range(len(first)) if 0 <= k - i < len(second))
            for k in range(len(first) + len(second) - 1)]


def minus_of(exponent):
    return [1] if exponent == 0 else times_of([-1, 1], minus_of(exponent - 1))


def plus_rows(rows, size):
    return [sum(row[at] for row in rows if at < len(row)) for at in range(size)]


def cut_of(row):
    padded = [0] + list(row)
    return [padded[i + 1] - padded[i] for i in range((len(row) - 1) // 2 + 1)]


def parts_of(told):
    """The pairs of [77], not filled up."""
    weight = told.height - 1
    return [(top, times_of(short_of(stretch_of(told, told.names[0], top)), minus_of(weight - told.ranks[top])))
            for top in told.names[:-1]]


def long_of(told):
    return plus_rows([part for _, part in parts_of(told)], told.height)


def short_of(told):
    return [1] if told.height == 0 else cut_of(long_of(told))


def turn_of(told):
    parts = [times_of(short_of(stretch_of(told, told.names[0], top)), minus_of(told.height - told.ranks[top]))
             for top in told.names]
    return plus_rows(parts, told.height + 1)


def multiplied_out(letters, old, new):
    """The terms of a list of terms in which each letter `old` is replaced by each (text, number) of `new`."""
    found = []
    for word, number in letters:
        parts = [("", number)]
        for letter in word:
            images = new if letter == old else [(letter, 1)]
            parts = [(start + text, size * sign) for start, size in parts for text, sign in images]
        found += parts
    return found


def added_terms(terms):
    return [(word, sum(number for other, number in terms if other == word)) for word in sorted(dict(terms))]


def long_of_told(told):
    """The long row of [79] for a told sum of letters ab, as the point tells it."""
    weight = told[1]
    rows = [[0] * (weight + 1)]
    for word, number in added_terms(multiplied_out(told[2].items(), "a", [("e", 1), ("b", 1)])):
        if "b" not in word:
            row = minus_of(weight)
        else:
            before, _, after = word.rpartition("b")
            terms = multiplied_out([(before, 1)], "e", [("a", 1), ("b", -1)])
            short = cut_of(long_of_told(sum_of("ab", len(before), terms)))
            row = times_of(short, minus_of(len(after)))
        rows.append([number * item for item in row])
    return plus_rows(rows, weight + 1)


def long_of_sum_value(told):
    return long_of_told(spread_of(told) if told[0] == "cd" else told)

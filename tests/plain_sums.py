"""What the document says of word sums, Moebius numbers, mirrors and words in c and d, told a second time, slowly.

A word sum is told as (letters, weight, table), where the table is a dict from words to numbers other than 0. An order
is told as `plain_counts.Told`. Answers have the form of `samples.answer`.
"""

import itertools

from plain import order_answer
from plain_counts import Told, all_rank_sets, alphas_table, end_errors, error_answer, stretch_pairs, within

WEIGHTS = {"a": 1, "b": 1, "c": 1, "d": 2}


def weight_of(word):
    return sum(map(WEIGHTS.get, word))


def words_of(letters, weight):
    """All words of the weight, found among all texts that are not too long."""
    texts = ("".join(text) for size in range(weight + 1) for text in itertools.product(letters, repeat=size))
    return sorted(text for text in texts if weight_of(text) == weight)


def sum_of(letters, weight, terms):
    """A told word sum from terms that are good."""
    words = {word for word, _ in terms}
    table = {word: sum(number for other, number in terms if other == word) for word in words}
    return (letters, weight, {word: number for word, number in table.items() if number != 0})


def sum_answer(told):
    letters, weight, table = told
    return ("sum", letters, weight, tuple(sorted(table.items())))


def made_answer(letters, weight, terms):
    """What `WordSum` gives."""
    due = [] if letters in ("ab", "cd") else [("InvalidLetters", (letters,))]
    due += [] if weight in range(10) else [("InvalidWeight", (weight,))]
    if not due:
        due = [("InvalidWord", (word,)) for word, _ in terms if word not in words_of(letters, weight)]
    return error_answer(due) if due else sum_answer(sum_of(letters, weight, terms))


def pair_errors(first, second):
    """The errors of a sum and of a difference."""
    if first[0] != second[0]:
        return [("UnlikeSums", ("letters",))]
    return [("UnlikeSums", ("weight",))] if first[1] != second[1] else []


def plus_answer(first, second, sign):
    due = pair_errors(first, second)
    if due:
        return error_answer(due)
    terms = list(first[2].items()) + [(word, sign * number) for word, number in second[2].items()]
    return sum_answer(sum_of(first[0], first[1], terms))


def times(first, second):
    """The product of two told sums that have one."""
    terms = [(x + y, number * factor) for x, number in first[2].items() for y, factor in second[2].items()]
    return sum_of(first[0], first[1] + second[1], terms)


def times_answer(first, second):
    due = [("InvalidWeight", (first[1] + second[1],))] if first[1] + second[1] > 9 else []
    due += [("UnlikeSums", ("letters",))] if first[0] != second[0] else []
    return error_answer(due) if due else sum_answer(times(first, second))


def power_answer(base, exponent):
    letters, weight, _ = base
    due = [("InvalidSize", (exponent,))] if exponent < 0 or exponent > 60 else []
    due += [("InvalidWeight", (weight * exponent,))] if weight * exponent > 9 else []
    if due:
        return error_answer(due)
    found = (letters, 0, {"": 1})
    for _ in range(exponent):
        found = times(found, base)
    return sum_answer(found)


def sum_text(told):
    """The text of a told sum."""
    pieces = []
    for word, number in sorted(told[2].items()):
        if pieces:
            pieces.append(" + " if number > 0 else " - ")
        elif number < 0:
            pieces.append("-")
        if word == "" or number not in (1, -1):
            pieces.append(str(abs(number)))
        pieces.append(word)
    return "".join(pieces) or "0"


def letter_sum(told):
    """The letter sum of an order of height 1 or more."""
    betas = within(alphas_table(told), -1)
    weight = told.height - 1
    terms = [("".join("ab"[rank in ranks] for rank in range(1, weight + 1)), beta) for ranks, beta in betas.items()]
    return sum_of("ab", weight, terms)


def stretch_of(told, low, high):
    """The stretch as a told order of its own."""
    names = told.between(low, high)
    return Told(names, tuple(pair for pair in told.covers if set(pair) <= set(names)))


def stretch_sum_answer(told, low, high):
    due = end_errors(told, low, high)
    if not due and low == high:
        due = [("TooLow", (0,))]
    return error_answer(due) if due else sum_answer(letter_sum(stretch_of(told, low, high)))


def mu_number(below, things, low, high):
    """The number of [32] for some things and a set of pairs as their relation."""
    if low == high:
        return 1
    if (low, high) not in below:
        return 0
    return -sum(mu_number(below, things, low, z) for z in things
                if z == low or ((low, z) in below and (z, high) in below))


def mu_answer(told, low, high):
    due = [error for error in end_errors(told, low, high) if error[0] == "UnknownName"]
    return error_answer(due) if due else ("value", mu_number(told.below, told.names, low, high))


def mu_pairs(told):
    """All stretches with their numbers in the stretch sequence, from length 0 on."""
    return tuple((pair, mu_number(told.below, told.names, *pair)) for pair in stretch_pairs(told, 0))


def length_of(told, low, high):
    return told.ranks[high] - told.ranks[low]


def unlike_mu_value(told):
    for (low, high), number in mu_pairs(told):
        if number != (-1) ** length_of(told, low, high):
            return (low, high, number)
    return None


def signed_total_answer(told, low, high):
    due = end_errors(told, low, high)
    if due:
        return error_answer(due)
    return ("value", sum((-1) ** length_of(told, low, z) for z in told.between(low, high)))


def selected_answer(told, ranks):
    due = [("TooLow", (0,))] if told.height == 0 else []
    if tuple(ranks) not in all_rank_sets(told.height - 1):
        due.append(("InvalidRanks", (tuple(ranks),)))
    if due:
        return error_answer(due)
    names = [name for name in told.names if told.ranks[name] in ranks or name not in told.middle]
    below = {(x, y) for x, y in told.below if x in names and y in names}
    covers = [(x, y) for x in names for y in names
              if (x, y) in below and not any((x, z) in below and (z, y) in below for z in names)]
    return order_answer(names, covers)


def struck_errors(told, struck):
    due = [("UnknownName", (name,)) for name in struck if name not in told.names]
    return due or [("EndStruck", (name,)) for name in struck if name not in told.middle]


def mu_without_answer(told, struck):
    due = struck_errors(told, struck)
    if due:
        return error_answer(due)
    names = [name for name in told.names if name not in struck]
    return ("value", mu_number(told.below, names, told.names[0], told.names[-1]))


def mu_by_struck_answer(told, struck):
    """The sum over all chains, each listed."""
    due = struck_errors(told, struck)
    if due:
        return error_answer(due)
    things = [name for name in told.names if name in struck]
    total = 0
    for size in range(len(things) + 1):
        for chain in itertools.combinations(things, size):
            if all(pair in told.below for pair in zip(chain, chain[1:])):
                path = (told.names[0],) + chain + (told.names[-1],)
                total += (-1) ** size * product_of(mu_number(told.below, told.names, *pair)
                                                   for pair in zip(path, path[1:]))
    return ("value", total)


def product_of(numbers):
    found = 1
    for number in numbers:
        found *= number
    return found


def mirror_of(word):
    return word.replace("a", "x").replace("b", "a").replace("x", "b")


def unmirrored_value(told):
    """What `unmirrored_word` gives for a told sum of letters ab."""
    for word in words_of("ab", told[1]):
        number, other = told[2].get(word, 0), told[2].get(mirror_of(word), 0)
        if number != other:
            return (word, number, mirror_of(word), other)
    return None


def unmirrored_ranks_value(told):
    betas = within(alphas_table(told), -1)
    for ranks in all_rank_sets(told.height - 1):
        other = tuple(rank for rank in range(1, told.height) if rank not in ranks)
        if betas[ranks] != betas[other]:
            return (ranks, betas[ranks], other, betas[other])
    return None


def first_stretch_value(told, judge):
    """The first stretch with a fault that `judge` finds in its letter sum, and the fault."""
    for low, high in stretch_pairs(told, 1):
        fault = judge(letter_sum(stretch_of(told, low, high)))
        if fault is not None:
            return (low, high) + fault
    return None


def spread_of(told):
    """The told sum of letters ab that a told sum of letters cd stands for."""
    found = ("ab", told[1], {})
    for word, number in told[2].items():
        one = ("ab", 0, {"": number})
        for letter in word:
            one = times(one, ("ab", 1, {"a": 1, "b": 1}) if letter == "c" else ("ab", 2, {"ab": 1, "ba": 1}))
        found = sum_of("ab", told[1], list(found[2].items()) + list(one[2].items()))
    return found


def is_first(text):
    """True if the text is a first word."""
    return set(text) <= {"a", "b"} and all(text[at - 1:at] == "a" for at in range(len(text)) if text[at] == "b")

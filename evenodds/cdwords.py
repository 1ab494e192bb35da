"""Words in the letters c = a + b and d = ab + ba, and what they are in a and b."""

from evenodds.ranksets import check_weight
from evenodds.words import WordSum, check_sum_letters, check_word

# What each letter stands for; the least word is the first one.
SPREADS = {"c": ("a", "b"), "d": ("ab", "ba")}


def cd_words(weight):
    """All words of the weight in the letters c and d, as texts are compared."""
    check_weight(weight)
    shorter, found = [], [""]
    for _ in range(weight):
        shorter, found = found, [*["c" + word for word in found], *["d" + word for word in shorter]]
    return tuple(found)


def cd_count(weight):
    """The number of words of the weight in the letters c and d."""
    return len(cd_words(weight))


def spread_words(word):
    """The words in a and b that the word in c and d stands for, the least one first."""
    found = [""]
    for letter in word:
        found = [start + end for start in found for end in SPREADS[letter]]
    return found


def spread(word_sum):
    """The sum of letters ab that the sum of letters cd stands for."""
    check_sum_letters(word_sum, "cd")
    terms = [(told, number) for word, number in word_sum for told in spread_words(word)]
    return WordSum("ab", word_sum.weight, terms)


def first_word(word):
    """The first word of a word in c and d: an a for each c, ab for each d."""
    check_word("cd", word)
    return "".join([SPREADS[letter][0] for letter in word])


def word_of_first(word):
    """The word in c and d that has this first word, or None if there is none."""
    found = word.replace("ab", "d").replace("a", "c")
    # Only letters a and b stand for others, so no c or d may have stood there before.
    if "c" in word or "d" in word or not all([letter in "cd" for letter in found]):
        return None
    return found

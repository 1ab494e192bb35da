"""Word sums: integer combinations of words in the letters a and b, or in the letters c and d."""

from evenodds.counts import check_like
from evenodds.errors import InvalidLetters, InvalidSize, InvalidText, InvalidWord, OddNumber, UnlikeSums
from evenodds.ranksets import check_weight

LETTER_WEIGHTS = {"a": 1, "b": 1, "c": 1, "d": 2}
MOST_EXPONENT = 60
MOST_DIGITS = 60


def check_letters(letters):
    """Raise InvalidLetters if the text is not one of the two letter pairs."""
    if letters not in ("ab", "cd"):
        raise InvalidLetters(letters)


def check_word(letters, word):
    """Raise InvalidWord if the word has a letter that is not of the pair."""
    if not all([letter in letters for letter in word]):
        raise InvalidWord(word)


def word_weight(letters, word):
    """The sum of the weights of the letters of the word."""
    check_letters(letters)
    check_word(letters, word)
    return sum([LETTER_WEIGHTS[letter] for letter in word])


def check_words(letters, weight, words):
    """Raise InvalidWord for the first of the words that has another letter or another weight."""
    for word in words:
        if word_weight(letters, word) != weight:
            raise InvalidWord(word)


def collected(terms):
    """The pairs (key, total number) of a list of pairs (key, number) without the totals of 0, sorted by key."""
    totals = {}
    for key, number in terms:
        totals[key] = totals.get(key, 0) + number
    return tuple(sorted([(key, number) for key, number in totals.items() if number != 0]))


def scaled(terms, factor):
    """The terms with each number times the factor."""
    return [(word, number * factor) for word, number in terms]


def check_like_letters(first, second):
    """Raise UnlikeSums if the two word sums have not the same letter pair."""
    if first.letters != second.letters:
        raise UnlikeSums("letters")


def joined(first, second):
    """The product of two word sums: each word of the first with each word of the second behind it."""
    weight = first.weight + second.weight
    check_weight(weight)
    check_like_letters(first, second)
    terms = [(start + end, number * times) for start, number in first.terms for end, times in second.terms]
    return WordSum(first.letters, weight, terms)


class WordSum:
    """An integer for each word of one weight in one letter pair."""

    def __init__(self, letters, weight, terms):
        check_letters(letters)
        check_weight(weight)
        check_words(letters, weight, [word for word, _ in terms])
        self.letters = letters
        self.weight = weight
        self.terms = collected(terms)
        self._numbers = {word: number for word, number in self.terms}

    def __eq__(self, other):
        return (
            isinstance(other, WordSum)
            and self.letters == other.letters
            and self.weight == other.weight
            and self.terms == other.terms
        )

    def __iter__(self):
        return iter(self.terms)

    def __contains__(self, word):
        return word in self._numbers

    def __bool__(self):
        return bool(self.terms)

    def __add__(self, other):
        check_like_letters(self, other)
        check_like(self, other)
        return WordSum(self.letters, self.weight, [*self.terms, *other.terms])

    def __sub__(self, other):
        return self + -other

    def __neg__(self):
        return WordSum(self.letters, self.weight, scaled(self.terms, -1))

    def __mul__(self, other):
        if isinstance(other, int):
            return WordSum(self.letters, self.weight, scaled(self.terms, other))
        return joined(self, other)

    def __rmul__(self, other):
        return self * other

    def coefficient(self, word):
        """The number of the word, and 0 for any other text."""
        return self._numbers.get(word, 0)

    def reversed_words(self):
        """The sum with each word read from its last letter to its first."""
        return WordSum(self.letters, self.weight, [(word[::-1], number) for word, number in self.terms])

    def halved(self):
        """The sum with each number divided by 2."""
        for word, number in self.terms:
            if number % 2 != 0:
                raise OddNumber(word, number)
        return WordSum(self.letters, self.weight, [(word, number // 2) for word, number in self.terms])


def check_sum_letters(word_sum, letters):
    """Raise InvalidLetters if the word sum has not this letter pair."""
    if word_sum.letters != letters:
        raise InvalidLetters(word_sum.letters)


def zero_sum(letters, weight):
    """The sum with no terms."""
    return WordSum(letters, weight, ())


def added(first, others):
    """The sum of the first word sum and of all of a list of others."""
    found = first
    for other in others:
        found = found + other
    return found


def single(letters, word):
    """The sum of the one word with the number 1."""
    return WordSum(letters, word_weight(letters, word), [(word, 1)])


def power(base, exponent):
    """The product of so many copies of the word sum."""
    if exponent < 0:
        raise InvalidSize(exponent)
    check_weight(base.weight * exponent)
    if exponent > MOST_EXPONENT:
        raise InvalidSize(exponent)
    found = single(base.letters, "")
    for _ in range(exponent):
        found = found * base
    return found


def format_term(word, number):
    """The text of a term behind another one, with its sign before it."""
    sign = " - " if number < 0 else " + "
    size = "" if abs(number) == 1 and word != "" else str(abs(number))
    return sign + size + word


def format_sum(word_sum):
    """The text of the word sum."""
    if not word_sum:
        return "0"
    text = "".join([format_term(word, number) for word, number in word_sum.terms])
    # Nothing stands before the first term, so its sign has no spaces, and a plus sign is left out.
    first = text[3:]
    return "-" + first if text.startswith(" - ") else first


def read_term(text):
    """The word and the number of a term with its sign directly before it, or None if it has too many digits."""
    unsigned = text.removeprefix("-")
    word = unsigned.lstrip("0123456789")
    digits = unsigned.removesuffix(word)
    if len(digits) > MOST_DIGITS:
        return None
    number = 1 if digits == "" else int(digits)
    return (word, -number if text.startswith("-") else number)


def is_word(letters, weight, word):
    """True if the text is a word of the letter pair and of the weight."""
    return all([letter in letters for letter in word]) and word_weight(letters, word) == weight


def parse_sum(text, letters, *, weight):
    """The word sum of the letter pair and weight whose text is exactly this one."""
    found = zero_sum(letters, weight)
    if text != "0":
        terms = [read_term(part) for part in text.replace(" - ", " + -").split(" + ")]
        if not all([term is not None and is_word(letters, weight, term[0]) for term in terms]):
            raise InvalidText(1)
        found = WordSum(letters, weight, terms)
    # Whatever else is wrong with the text, such as the sequence of its terms, it is not the one of the sum.
    if format_sum(found) != text:
        raise InvalidText(1)
    return found

"""The errors of the program, in the order that decides which one is raised, and its bounds."""

MOST_NAME = 24
MOST_THINGS = 40
MOST_HEIGHT = 9
MOST_WEIGHT = 9
MOST_CHAINS = 2000
SMALL_THINGS = 16
MOST_FACETS = 12
MOST_CORNERS = 9


def frozen(value):
    """The value with each list in it, at any depth of lists and tuples, as a tuple."""
    if isinstance(value, (list, tuple)):
        return tuple([frozen(item) for item in value])
    return value


class EvenOddsError(ValueError):
    """What all errors of the program have in common; it is never raised itself."""

    def __init__(self, message):
        ValueError.__init__(self, message)
        self.label = self.__class__.__name__


class InvalidQuestion(EvenOddsError):
    def __init__(self, question):
        EvenOddsError.__init__(self, f"no such question: {question!r}")
        self.question = question


class InvalidLetters(EvenOddsError):
    def __init__(self, value):
        EvenOddsError.__init__(self, f"not a letter pair for this: {value!r}")
        self.value = value


class InvalidWeight(EvenOddsError):
    def __init__(self, value):
        EvenOddsError.__init__(self, f"weight out of bounds: {value!r}")
        self.value = value


class InvalidSize(EvenOddsError):
    def __init__(self, value):
        EvenOddsError.__init__(self, f"size out of bounds: {value!r}")
        self.value = value


class InvalidText(EvenOddsError):
    def __init__(self, line):
        EvenOddsError.__init__(self, f"line {line!r} does not have the right form")
        self.line = line


class InvalidEdit(EvenOddsError):
    def __init__(self, edit):
        self.edit = frozen(edit)
        EvenOddsError.__init__(self, f"not the form of an edit: {self.edit!r}")


class InvalidName(EvenOddsError):
    def __init__(self, name):
        EvenOddsError.__init__(self, f"not a name: {name!r}")
        self.name = name


class DuplicateName(EvenOddsError):
    def __init__(self, name):
        EvenOddsError.__init__(self, f"the name is taken: {name!r}")
        self.name = name


class UnknownName(EvenOddsError):
    def __init__(self, name):
        EvenOddsError.__init__(self, f"no thing has the name: {name!r}")
        self.name = name


class EndStruck(EvenOddsError):
    def __init__(self, name):
        EvenOddsError.__init__(self, f"an end of the order cannot be struck: {name!r}")
        self.name = name


class InvalidWord(EvenOddsError):
    def __init__(self, word):
        EvenOddsError.__init__(self, f"not a word for this: {word!r}")
        self.word = word


class TooLow(EvenOddsError):
    def __init__(self, value):
        EvenOddsError.__init__(self, f"the order has too small a height: {value!r}")
        self.value = value


class InvalidRanks(EvenOddsError):
    def __init__(self, ranks):
        self.ranks = frozen(ranks)
        EvenOddsError.__init__(self, f"not a rank set for this weight: {self.ranks!r}")


class InvalidFacet(EvenOddsError):
    def __init__(self, facet):
        self.facet = frozen(facet)
        EvenOddsError.__init__(self, f"not a facet, or a repeated one: {self.facet!r}")


class WrongCount(EvenOddsError):
    def __init__(self, due, given):
        EvenOddsError.__init__(self, f"{due!r} needed, {given!r} given")
        self.due = due
        self.given = given


class UnlikeSums(EvenOddsError):
    def __init__(self, reason):
        EvenOddsError.__init__(self, f"the sums do not fit together: {reason}")
        self.reason = reason


class DuplicateCover(EvenOddsError):
    def __init__(self, lower, upper):
        EvenOddsError.__init__(self, f"the cover from {lower!r} up to {upper!r} stands already")
        self.lower = lower
        self.upper = upper


class MissingCover(EvenOddsError):
    def __init__(self, lower, upper):
        EvenOddsError.__init__(self, f"no cover leads from {lower!r} up to {upper!r}")
        self.lower = lower
        self.upper = upper


class NotBelow(EvenOddsError):
    def __init__(self, low, high):
        EvenOddsError.__init__(self, f"{low!r} is not below {high!r}")
        self.low = low
        self.high = high


class NotClosed(EvenOddsError):
    def __init__(self, high, low):
        EvenOddsError.__init__(self, f"{high!r} is in the list, {low!r} below it is not")
        self.high = high
        self.low = low


class BadBorder(EvenOddsError):
    def __init__(self, reason):
        EvenOddsError.__init__(self, f"the closed list has no border: {reason}")
        self.reason = reason


class TooMany(EvenOddsError):
    def __init__(self, what, most):
        EvenOddsError.__init__(self, f"more than {most!r} {what}")
        self.what = what
        self.most = most


class RingFound(EvenOddsError):
    def __init__(self, name):
        EvenOddsError.__init__(self, f"a path leads up from {name!r} back to it")
        self.name = name


class NoEnd(EvenOddsError):
    def __init__(self, end):
        EvenOddsError.__init__(self, f"there is not exactly one {end} thing")
        self.end = end


class WrongRank(EvenOddsError):
    def __init__(self, lower, upper):
        EvenOddsError.__init__(self, f"the cover from {lower!r} to {upper!r} does not go up by one rank")
        self.lower = lower
        self.upper = upper


class TooHigh(EvenOddsError):
    def __init__(self, value):
        EvenOddsError.__init__(self, f"the height would be {value!r}")
        self.value = value


class Uneven(EvenOddsError):
    def __init__(self, low, high, evens, odds):
        message = f"{evens!r} even and {odds!r} odd ranks between {low!r} and {high!r}"
        EvenOddsError.__init__(self, message)
        self.low = low
        self.high = high
        self.evens = evens
        self.odds = odds


class OddNumber(EvenOddsError):
    def __init__(self, word, number):
        EvenOddsError.__init__(self, f"the number of {word!r} is odd: {number!r}")
        self.word = word
        self.number = number


class NotReadable(EvenOddsError):
    def __init__(self, word, number):
        EvenOddsError.__init__(self, f"{number!r} of the word {word!r} cannot be read in c and d")
        self.word = word
        self.number = number


class NoStep(EvenOddsError):
    def __init__(self, direction):
        EvenOddsError.__init__(self, f"no step to {direction}")
        self.direction = direction

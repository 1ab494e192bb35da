"""Orders: things with ranks, and the covers between them."""

from evenodds.errors import (
    MOST_HEIGHT,
    MOST_NAME,
    MOST_THINGS,
    DuplicateCover,
    DuplicateName,
    InvalidName,
    NoEnd,
    RingFound,
    TooHigh,
    TooMany,
    UnknownName,
    WrongRank,
)

NAME_CHARACTERS = "abcdefghijklmnopqrstuvwxyz0123456789-"


def is_name(text):
    """True if the text may be the name of a thing."""
    if not 1 <= len(text) <= MOST_NAME:
        return False
    return all([character in NAME_CHARACTERS for character in text])


def as_pairs(pairs):
    """The list of pairs as a tuple of tuples, so that no list of a caller is kept."""
    return tuple([tuple(pair) for pair in pairs])


def repeats(items):
    """The items that equal an earlier item, in sequence."""
    seen = set()
    found = []
    for item in items:
        if item in seen:
            found.append(item)
        seen.add(item)
    return found


def check_are_names(texts):
    """Raise InvalidName for the first of the texts that is not a name."""
    for text in texts:
        if not is_name(text):
            raise InvalidName(text)


def check_names(names):
    """Raise InvalidName or DuplicateName if the texts cannot be the names of an order."""
    check_are_names(names)
    again = repeats(names)
    if again:
        raise DuplicateName(again[0])


def check_known(known, names):
    """Raise UnknownName for the first of the names that is not among the known ones."""
    for name in names:
        if name not in known:
            raise UnknownName(name)


def check_pair_names(names, pairs):
    """Raise UnknownName for the first name in the pairs, lower before upper, that is not in `names`."""
    known = {name: True for name in names}
    for pair in pairs:
        check_known(known, pair)


def check_covers(pairs):
    """Raise DuplicateCover for the first pair that equals an earlier one."""
    again = repeats(pairs)
    if again:
        lower, upper = again[0]
        raise DuplicateCover(lower, upper)


def seconds_by_first(names, pairs):
    """A dict from each name to the tuple of the second members of its pairs, in sequence."""
    found = {name: [] for name in names}
    for first, second in pairs:
        found[first].append(second)
    return {name: tuple(found[name]) for name in names}


def turned_pairs(pairs):
    """Each pair with its members exchanged."""
    return [(second, first) for first, second in pairs]


def reached(uppers, start):
    """A dict whose keys are the things to which a path of one or more covers leads from `start`."""
    found = {}
    waiting = [start]
    while waiting:
        here = waiting.pop()
        for name in uppers[here]:
            if name not in found:
                found[name] = True
                waiting.append(name)
    return found


def things_above(names, pairs):
    """A dict from each name to what `reached` finds; raises TooMany and RingFound."""
    if len(names) > MOST_THINGS:
        raise TooMany("things", MOST_THINGS)
    uppers = seconds_by_first(names, pairs)
    above = {name: reached(uppers, name) for name in names}
    for name in names:
        if name in above[name]:
            raise RingFound(name)
    return above


def check_ends(names, pairs):
    """Raise NoEnd if there is not exactly one least and exactly one greatest thing."""
    lowers = seconds_by_first(names, turned_pairs(pairs))
    if len([name for name in names if not lowers[name]]) != 1:
        raise NoEnd("least")
    uppers = seconds_by_first(names, pairs)
    if len([name for name in names if not uppers[name]]) != 1:
        raise NoEnd("greatest")


def longest_ranks(names, pairs, above):
    """A dict from each name to the number of covers in a longest path up to it; there is no ring."""
    uppers = seconds_by_first(names, pairs)
    ranks = {name: 0 for name in names}
    # A lower thing has more things above it than an upper one, so its rank is final when its turn comes.
    for lower in sorted(names, key=lambda name: len(above[name]), reverse=True):
        for upper in uppers[lower]:
            ranks[upper] = max(ranks[upper], ranks[lower] + 1)
    return ranks


def checked_ranks(names, pairs, above):
    """The ranks of the things of an order without rings; raises NoEnd, WrongRank and TooHigh."""
    check_ends(names, pairs)
    ranks = longest_ranks(names, pairs, above)
    for lower, upper in pairs:
        if ranks[upper] != ranks[lower] + 1:
            raise WrongRank(lower, upper)
    height = max(list(ranks.values()))
    if height > MOST_HEIGHT:
        raise TooHigh(height)
    return ranks


class Order:
    """Things with different names and ranks, with one least and one greatest thing."""

    def __init__(self, names, covers=()):
        given = tuple(names)
        pairs = as_pairs(covers)
        check_names(given)
        check_pair_names(given, pairs)
        check_covers(pairs)
        self._above = things_above(given, pairs)
        self._ranks = checked_ranks(given, pairs, self._above)
        self._set_places(given, pairs)

    def _set_places(self, given, pairs):
        ranks = self._ranks
        # Sorting keeps the given sequence among things of equal rank.
        self.names = tuple(sorted(given, key=lambda name: ranks[name]))
        places = {name: place for place, name in enumerate(self.names)}
        self.covers = tuple(sorted(pairs, key=lambda pair: (places[pair[0]], places[pair[1]])))
        self.height = ranks[self.names[-1]]
        self.weight = self.height - 1
        self._places = places
        self._uppers = seconds_by_first(self.names, self.covers)
        self._lowers = seconds_by_first(self.names, turned_pairs(self.covers))

    def __eq__(self, other):
        return isinstance(other, Order) and self.names == other.names and self.covers == other.covers

    def __contains__(self, name):
        return name in self._places

    def __iter__(self):
        return iter(self.names)

    @property
    def least(self):
        """The name of the thing that is below all others."""
        return self.names[0]

    @property
    def greatest(self):
        """The name of the thing that is above all others."""
        return self.names[-1]

    @property
    def size(self):
        """The number of things."""
        return len(self.names)

    def rank(self, name):
        """The rank of the thing."""
        check_known(self._places, (name,))
        return self._ranks[name]

    def place(self, name):
        """The index of the thing in `names`."""
        check_known(self._places, (name,))
        return self._places[name]

    def at_rank(self, rank):
        """The names of the things of this rank, by place."""
        return tuple([name for name in self.names if self._ranks[name] == rank])

    def is_below(self, low, high):
        """True if a path of one or more covers leads up from `low` to `high`."""
        check_known(self._places, (low, high))
        return high in self._above[low]

    def is_at_most(self, low, high):
        """True if `low` is below `high` or equal to it."""
        check_known(self._places, (low, high))
        return low == high or high in self._above[low]

    def lowers(self, name):
        """The names of the things that the thing covers, by place."""
        check_known(self._places, (name,))
        return self._lowers[name]

    def uppers(self, name):
        """The names of the things that cover the thing, by place."""
        check_known(self._places, (name,))
        return self._uppers[name]

"""The module evenodds.bruhat: point [66]."""

import itertools
import unittest

from evenodds import errors
from evenodds.bruhat import is_at_most, rearrangement_stretch, rearrangements, swaps
from evenodds.cdread import cd_sum
from evenodds.evencheck import is_even
from evenodds.relations import relations
from evenodds.words import WordSum, single
from samples import BIG, Asks

WRONG_TEXTS = ("", "0", "2", "11", "13", "22", "122", "1223", "124", "012", "1 2", " 1", "1 ", "1\n", "\n", "12\n",
               "ab", "123456", "654321", "12345\n", "1123", "-1", "1.2", "1" * 20000, "12345" * 4000, "a")


def texts(size):
    return ["".join(word) for word in itertools.permutations("12345"[:size])]


class Swaps(Asks, unittest.TestCase):
    def test_numbers(self):
        for word, number in (("1", 0), ("12", 0), ("21", 1), ("231", 2), ("312", 2), ("321", 3), ("2143", 2),
                             ("3412", 4), ("54321", 10), ("12345", 0), ("21345", 1), ("52341", 7)):
            self.assertEqual(swaps(word), number)
            self.assertEqual(swaps(word=word), number)

    def test_other_texts(self):
        for text in WRONG_TEXTS:
            self.assert_error(errors.InvalidWord, (text,), swaps, text)


class AtMost(Asks, unittest.TestCase):
    def test_small_sizes(self):
        self.assertIs(is_at_most("1", "1"), True)
        self.assertIs(is_at_most(first="12", second="21"), True)
        self.assertIs(is_at_most("21", "12"), False)
        below = {("123", "132"), ("123", "213"), ("123", "231"), ("123", "312"), ("123", "321"), ("132", "231"),
                 ("132", "312"), ("132", "321"), ("213", "231"), ("213", "312"), ("213", "321"), ("231", "321"),
                 ("312", "321")}
        for first, second in itertools.product(texts(3), repeat=2):
            self.assertIs(is_at_most(first, second), first == second or (first, second) in below)

    def test_sorted_starts_decide(self):
        # These have unlike numbers of swaps, but are not at most each other.
        for first, second in (("1342", "3124"), ("1432", "3214"), ("2143", "1324"), ("2134", "1432"),
                              ("12354", "52341")):
            self.assertIs(is_at_most(first, second), first == "12354")
        self.assertIs(is_at_most("2143", "3412"), True)
        self.assertIs(is_at_most("1432", "3412"), True)
        self.assertIs(is_at_most("1432", "2413"), False)
        self.assertIs(is_at_most("24135", "52341"), True)

    def test_a_cover_is_one_swap_of_two_characters(self):
        for size in (2, 3, 4):
            for first, second in itertools.product(texts(size), repeat=2):
                if swaps(second) == swaps(first) + 1:
                    unlike = [at for at in range(size) if first[at] != second[at]]
                    self.assertIs(is_at_most(first, second), len(unlike) == 2)
                if swaps(second) < swaps(first):
                    self.assertIs(is_at_most(first, second), False)

    def test_other_texts_and_unlike_sizes(self):
        for text in WRONG_TEXTS:
            for function in (is_at_most, rearrangement_stretch):
                self.assert_error(errors.InvalidWord, (text,), function, text, "123")
                self.assert_error(errors.InvalidWord, (text,), function, "321", text)
                self.assert_error(errors.InvalidWord, (text,), function, text, "x")
        for first, second in (("1", "12"), ("12", "1"), ("321", "1234"), ("12345", "21")):
            self.assert_error(errors.InvalidWord, (second,), is_at_most, first, second)
            self.assert_error(errors.InvalidWord, (second,), rearrangement_stretch, first, second)


class Stretches(Asks, unittest.TestCase):
    def test_small_stretches(self):
        self.assert_same_order(rearrangement_stretch("1", "1"), ("1",), ())
        self.assert_same_order(rearrangement_stretch("312", "312"), ("312",), ())
        self.assert_same_order(rearrangement_stretch(low="12", high="21"), ("12", "21"), (("12", "21"),))
        self.assert_same_order(rearrangement_stretch("132", "321"), ("132", "231", "312", "321"), (
            ("132", "231"), ("132", "312"), ("231", "321"), ("312", "321")))
        self.assert_same_order(rearrangements(3), ("123", "132", "213", "231", "312", "321"), (
            ("123", "132"), ("123", "213"), ("132", "231"), ("132", "312"), ("213", "231"), ("213", "312"),
            ("231", "321"), ("312", "321")))

    def assert_stretch(self, found, low, high):
        words = [word for word in texts(len(low)) if is_at_most(low, word) and is_at_most(word, high)]
        self.assertEqual(list(found), sorted(words, key=lambda word: (swaps(word), word)))
        for word in found:
            self.assertEqual(found.rank(word), swaps(word) - swaps(low))
        below = {(x, y) for x, y in itertools.permutations(words, 2) if is_at_most(x, y)}
        self.assertEqual(set(relations(found)), below)
        self.assertIs(is_even(found), True)

    def test_all_stretches_of_size_three_and_some_of_four(self):
        for size, step in ((1, 1), (2, 1), (3, 1), (4, 7)):
            pairs = [(low, high) for low, high in itertools.product(texts(size), repeat=2) if is_at_most(low, high)]
            for low, high in pairs[::step]:
                self.assert_stretch(rearrangement_stretch(low, high), low, high)

    def test_stretches_of_size_five(self):
        for low, high in (("12345", "32541"), ("23145", "42351"), ("54312", "54321"), ("13245", "35142")):
            self.assert_stretch(rearrangement_stretch(low, high), low, high)

    def test_not_at_most(self):
        for low, high in (("21", "12"), ("321", "123"), ("132", "213"), ("213", "132"), ("1432", "2413"),
                          ("54321", "12345"), ("21345", "13245"), ("54321", "45321")):
            self.assert_error(errors.NotBelow, (low, high), rearrangement_stretch, low, high)

    def test_forty_things_and_more(self):
        sizes = {}
        for high in texts(5):
            sizes.setdefault(len([word for word in texts(5) if is_at_most(word, high)]), high)
        for size, high in sizes.items():
            if size <= 40:
                self.assertEqual(rearrangement_stretch("12345", high).size, size)
            else:
                self.assert_error(errors.TooMany, ("things", 40), rearrangement_stretch, "12345", high)
        # The greatest number that is there, and the least one beyond.
        self.assertEqual(max(size for size in sizes if size <= 40), 40)
        self.assertLess(min(size for size in sizes if size > 40), 50)
        self.assert_error(errors.TooMany, ("things", 40), rearrangement_stretch, "12345", "54321")
        self.assert_error(errors.TooMany, ("things", 40), rearrangement_stretch, "21345", "54321")


class Rearrangements(Asks, unittest.TestCase):
    def test_sizes(self):
        for size, count, height in ((1, 1, 0), (2, 2, 1), (3, 6, 3), (4, 24, 6)):
            found = rearrangements(size)
            self.assertEqual((found.size, found.height, is_even(found)), (count, height, True))
            digits = "1234"[:size]
            self.assertEqual((found.least, found.greatest), (digits, digits[::-1]))
            self.assertEqual(found, rearrangement_stretch(digits, digits[::-1]))
            self.assertEqual(rearrangements(size=size), found)
            for rank in range(height + 1):
                self.assertEqual(list(found.at_rank(rank)), sorted(found.at_rank(rank)))

    def test_sums(self):
        self.assertEqual(cd_sum(rearrangements(2)), single("cd", ""))
        self.assertEqual(cd_sum(rearrangements(3)), WordSum("cd", 2, [("cc", 1)]))
        self.assertEqual(cd_sum(rearrangements(4)).weight, 5)

    def test_other_sizes(self):
        for size in (0, -1, 5, 6, BIG, -BIG):
            self.assert_error(errors.InvalidSize, (size,), rearrangements, size)


if __name__ == "__main__":
    unittest.main()

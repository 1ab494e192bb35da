"""The module evenodds.cdread: points [40] and [41]."""

import random
import unittest

from evenodds import errors
from evenodds.absum import ab_sum, stretch_sum
from evenodds.cdread import cd_sum, is_readable, is_reading, read_cd, reading, unread_stretch
from evenodds.cdwords import cd_words, first_word, spread
from evenodds.evencheck import is_even, uneven_stretch
from evenodds.moebius import mu
from evenodds.words import WordSum, single, zero_sum
from samples import (
    BIG,
    Asks,
    beside,
    crooked,
    diamond,
    full,
    line,
    one,
    random_orders,
    skew,
    some_sums,
    triangle,
    two,
    wide,
    widest,
)

CD_SUMS = (zero_sum("cd", 0), zero_sum("cd", 9), single("cd", ""), single("cd", "cd"), WordSum("cd", 1, [("c", 2)]))


def some_readings():
    """Sums of letters ab of all weights, readable ones too, with their readings."""
    source = random.Random(101)
    sums = [word_sum for weight in range(8) for word_sum in some_sums("ab", weight, source, 4)]
    sums += [spread(part) for weight in range(10) for part in some_sums("cd", weight, source, 4)]
    return [(word_sum, *reading(word_sum)) for word_sum in sums]


class Readings(Asks, unittest.TestCase):
    """Point [40]: `reading`."""

    def assert_reading(self, word_sum, part, rest):
        found = reading(word_sum)
        self.assertIs(found.__class__, tuple)
        self.assertEqual(len(found), 2)
        self.assert_sum(found[0], "cd", word_sum.weight, part)
        self.assert_sum(found[1], "ab", word_sum.weight, rest)

    def test_small_sums(self):
        self.assert_reading(WordSum("ab", 1, [("a", 1), ("b", 2)]), (("c", 1),), (("b", 1),))
        self.assert_reading(WordSum("ab", 1, [("b", -2)]), (), (("b", -2),))
        self.assert_reading(WordSum("ab", 1, [("a", -3)]), (("c", -3),), (("b", 3),))
        self.assert_reading(WordSum("ab", 2, [("aa", 1)]), (("cc", 1), ("d", -1)), (("bb", -1),))
        self.assert_reading(WordSum("ab", 2, [("ab", 2), ("bb", 5)]), (("d", 2),), (("ba", -2), ("bb", 5)))
        self.assert_reading(WordSum("ab", 2, [("aa", 1), ("ab", 2), ("ba", 2), ("bb", 1)]), (("cc", 1), ("d", 1)), ())
        self.assert_reading(WordSum("ab", 3, [("aba", 1)]), (("dc", 1),), (("abb", -1), ("baa", -1), ("bab", -1)))
        self.assertEqual(reading(word_sum=single("ab", "b")), (zero_sum("cd", 1), single("ab", "b")))

    def test_weight_zero_and_zero_sums(self):
        for number in (1, -1, 7, BIG):
            self.assert_reading(WordSum("ab", 0, [("", number)]), (("", number),), ())
        for weight in range(10):
            self.assert_reading(zero_sum("ab", weight), (), ())

    def test_the_two_parts_make_the_sum(self):
        for word_sum, part, rest in some_readings():
            self.assertEqual(spread(part) + rest, word_sum)
            for word in cd_words(word_sum.weight):
                self.assertEqual(rest.coefficient(first_word(word)), 0)

    def test_great_numbers(self):
        great = WordSum("ab", 2, [("aa", BIG), ("ab", -BIG), ("bb", 3)])
        self.assert_reading(great, (("cc", BIG), ("d", -2 * BIG)), (("ba", BIG), ("bb", 3 - BIG)))

    def test_letters_cd(self):
        for word_sum in CD_SUMS:
            for function in (reading, read_cd, is_readable):
                self.assert_error(errors.InvalidLetters, ("cd",), function, word_sum)


class Judged(Asks, unittest.TestCase):
    """Point [40]: `is_reading`, `is_readable` and `read_cd`."""

    def test_true_pairs(self):
        for word_sum, part, rest in some_readings():
            self.assertIs(is_reading(word_sum, part, rest), True)
            self.assertIs(is_reading(word_sum=word_sum, cd_part=part, rest=rest), True)

    def test_changed_numbers(self):
        for word_sum, part, rest in some_readings()[::3]:
            for word in cd_words(part.weight)[:6]:
                self.assertIs(is_reading(word_sum, part + single("cd", word), rest), False)
                other = single("ab", first_word(word))
                self.assertIs(is_reading(word_sum, part, rest - other), False)
                self.assertIs(is_reading(word_sum + other, part, rest), False)
                # The two still make the sum, but the rest has a first word.
                changed = part - single("cd", word)
                self.assertIs(is_reading(word_sum, changed, rest + spread(single("cd", word))), False)

    def test_other_letter_pairs(self):
        for word_sum, part, rest in some_readings()[::3]:
            other = zero_sum("cd", rest.weight)
            self.assertIs(is_reading(part, part, rest), False)
            self.assertIs(is_reading(word_sum, word_sum, rest), False)
            self.assertIs(is_reading(word_sum, part, part), False)
            self.assertIs(is_reading(word_sum, part, other), False)
            self.assertIs(is_reading(other, part, other), False)
        zeros = {letters: zero_sum(letters, 2) for letters in ("ab", "cd")}
        for x in zeros:
            for y in zeros:
                for z in zeros:
                    self.assertIs(is_reading(zeros[x], zeros[y], zeros[z]), (x, y, z) == ("ab", "cd", "ab"))

    def test_unlike_weights(self):
        for weights in ((1, 1, 2), (1, 2, 1), (2, 1, 1), (0, 1, 2), (9, 9, 8), (8, 9, 9), (0, 0, 9)):
            sums = [zero_sum(letters, weight) for letters, weight in zip(("ab", "cd", "ab"), weights)]
            self.assertIs(is_reading(*sums), False)
        self.assertIs(is_reading(single("ab", ""), single("cd", ""), zero_sum("ab", 1)), False)

    def test_readable_sums(self):
        for word_sum, part, rest in some_readings():
            self.assertIs(is_readable(word_sum), not rest.terms)
            self.assertIs(is_readable(word_sum=spread(part)), True)

    def test_read(self):
        for word_sum, part, rest in some_readings():
            if rest.terms:
                self.assert_error(errors.NotReadable, rest.terms[0], read_cd, word_sum)
            else:
                self.assertEqual(read_cd(word_sum), part)
                self.assertEqual(spread(read_cd(word_sum=word_sum)), word_sum)
            self.assertEqual(read_cd(spread(part)), part)

    def test_the_examples_of_the_document(self):
        found = read_cd(WordSum("ab", 2, [("aa", 1), ("ab", 2), ("ba", 2), ("bb", 1)]))
        self.assert_sum(found, "cd", 2, (("cc", 1), ("d", 1)))
        self.assert_error(errors.NotReadable, ("b", 1), read_cd, WordSum("ab", 1, [("a", 1), ("b", 2)]))

    def test_the_first_term_has_its_number_in_the_rest(self):
        for weight, terms, word, number in (
            (1, [("b", 2)], "b", 2), (1, [("a", 5), ("b", 3)], "b", -2), (2, [("ba", 3), ("ab", 1)], "ba", 2),
            (2, [("aa", 1), ("ab", 1), ("ba", 1), ("bb", 4)], "bb", 3), (2, [("bb", 4), ("ba", -1)], "ba", -1),
            (3, [("aba", 1), ("abb", 6)], "abb", 5), (3, [("baa", 7)], "baa", 7), (3, [("aaa", 1)], "abb", -1),
        ):
            self.assert_error(errors.NotReadable, (word, number), read_cd, WordSum("ab", weight, terms))

    def test_all_single_words_are_read_back(self):
        for weight in range(10):
            for word in cd_words(weight):
                self.assertEqual(read_cd(spread(single("cd", word))), single("cd", word))


class Orders(Asks, unittest.TestCase):
    """Point [41]."""

    def test_even_orders(self):
        for order, weight, terms in (
            (two(), 0, (("", 1),)), (diamond(), 1, (("c", 1),)), (triangle(), 2, (("cc", 1), ("d", 1))),
            (full(2, 2), 2, (("cc", 1),)), (full(2, 2, 2, 2, 2, 2, 2, 2), 8, (("c" * 8, 1),)),
        ):
            self.assert_sum(cd_sum(order), "cd", weight, terms)
            self.assertEqual(spread(cd_sum(order=order)), ab_sum(order))
            self.assertIsNone(unread_stretch(order) if order.size <= 16 else None)

    def test_uneven_orders(self):
        for order, word, number in ((line(3), "b", -1), (line(4), "bb", -1), (wide(40), "b", 36), (wide(5), "b", 1),
                                    (crooked(), "bb", -1)):
            self.assert_error(errors.NotReadable, (word, number), cd_sum, order)

    def test_an_uneven_order_with_a_readable_sum(self):
        self.assertIs(is_even(skew()), False)
        self.assert_sum(cd_sum(skew()), "cd", 2, (("cc", 1), ("d", 1)))
        self.assertEqual(unread_stretch(skew()), ("bot", "k", "b", 1))

    def test_an_order_of_one_thing(self):
        self.assert_error(errors.TooLow, (0,), cd_sum, one())
        self.assertIsNone(unread_stretch(one()))
        self.assertIsNone(unread_stretch(order=one()))

    def test_unread_stretches(self):
        for order, due in (
            (line(3), ("t0", "t2", "b", -1)), (wide(16), ("n", "o", "b", 12)), (crooked(), ("bot", "j", "b", -1)),
            (full(2, 3), ("m1-0", "o", "b", 1)), (beside(), ("n", "o", "baa", 2)),
        ):
            self.assertEqual(unread_stretch(order), due)
            self.assertEqual(unread_stretch(order=order), due)

    def test_what_the_document_says_of_the_stretch(self):
        for order in random_orders(random.Random(102), 80) + [beside(), skew()]:
            found = unread_stretch(order)
            self.assertEqual(found is None, is_even(order))
            if found is not None:
                low, high, word, number = found
                self.assertEqual((low, high), uneven_stretch(order)[:2])
                self.assertEqual((word[0], set(word[1:])), ("b", {"a"} if len(word) > 1 else set()))
                self.assertEqual(number, mu(order, low, high) - 1)
                self.assert_error(errors.NotReadable, (word, number), read_cd, stretch_sum(order, low, high))

    def test_sixteen_and_seventeen_things(self):
        self.assertEqual(unread_stretch(wide(16))[:2], ("n", "o"))
        self.assertIsNone(unread_stretch(full(2, 2, 2, 2, 2, 2, 2)))
        for order in (wide(17), wide(40), full(2, 2, 2, 2, 2, 2, 3), widest()):
            self.assert_error(errors.TooMany, ("things", 16), unread_stretch, order)


if __name__ == "__main__":
    unittest.main()

"""The module evenodds.signrows: points [87] to [93]."""

import itertools
import random
import unittest

from evenodds import errors
from evenodds.cdread import cd_sum
from evenodds.cdwords import spread
from evenodds.counts import Counts, alphas, betas_of_alphas
from evenodds.absum import sum_of_betas
from evenodds.evencheck import is_even
from evenodds.faces import cross, cube, polygon, simplex
from evenodds.moebius import mu
from evenodds.relations import is_matching, relations
from evenodds.signrows import (
    differing,
    face_order,
    is_arrangement,
    is_lot_matching,
    joined_rows,
    line_rows,
    lot_sum,
    put_on,
    row_count,
    row_counts,
    turned_row,
    unclosed,
    undoubled_term,
    zero_lot,
    zero_lots,
    zero_order,
)
from evenodds.words import WordSum, single, zero_sum
from samples import (
    BIG,
    Asks,
    beside,
    crooked,
    diamond,
    full,
    line,
    one,
    random_orders,
    skew,
    some_sums,
    two,
    wide,
    widest,
)
from told_samples import even_orders

WRONG_TEXTS = ("x", "0x", "-0+ ", " ", "0\n", "\n", "mop", "0000000", "-+-+-+-", "1", "+0-.", "--\n", "0" * 20000, "r0")
AB_SUMS = (zero_sum("ab", 0), zero_sum("ab", 9), single("ab", ""), single("ab", "ab"))


def all_rows(size):
    return tuple("".join(row) for row in itertools.product("-0+", repeat=size))


def arrangements():
    """Arrangements of many kinds, with lengths from 0 to 6."""
    found = [all_rows(size) for size in range(4)] + [line_rows(count) for count in range(1, 7)]
    found += [("0" * size,) for size in range(7)]
    found += [joined_rows(line_rows(3), line_rows(1)), joined_rows(all_rows(1), line_rows(2)), ("--", "00", "++")]
    # One line told twice, and once turned; three planes with a common line, and a fourth one across.
    found += [tuple(row + row for row in all_rows(2)), tuple(row + turned_row(row) for row in line_rows(3))]
    return found


class Texts(Asks, unittest.TestCase):
    """Point [87]: rows alone."""

    def test_zero_lots(self):
        for row, due in (("", ()), ("0", (0,)), ("-", ()), ("-0+0", (1, 3)), ("000000", (0, 1, 2, 3, 4, 5)),
                         ("+-+-+-", ())):
            self.assertEqual(zero_lot(row), due)
            self.assertEqual(zero_lot(row=row), due)

    def test_turned_rows(self):
        for row, due in (("", ""), ("-0+", "+0-"), ("000", "000"), ("--++-+", "++--+-")):
            self.assertEqual(turned_row(row), due)
            self.assertEqual(turned_row(row=due), row)

    def test_put_on(self):
        for first, second, due in (("", "", ""), ("0", "-", "-"), ("-", "0", "-"), ("-", "+", "-"), ("+", "-", "+"),
                                   ("0-0+0", "+0-0+", "+--++"), ("000000", "-0+-0+", "-0+-0+")):
            self.assertEqual(put_on(first, second), due)
            self.assertEqual(put_on(first=first, second=second), due)

    def test_differing(self):
        for first, second, due in (("", "", ()), ("0", "-", ()), ("-", "+", (0,)), ("-", "-", ()), ("0", "0", ()),
                                   ("-+0+-0", "+++--+", (0, 3)), ("++++++", "------", (0, 1, 2, 3, 4, 5))):
            self.assertEqual(differing(first, second), due)
            self.assertEqual(differing(first=second, second=first), due)

    def test_wrong_texts(self):
        for text in WRONG_TEXTS:
            for function in (zero_lot, turned_row):
                self.assert_error(errors.InvalidWord, (text,), function, text)
            for function in (put_on, differing):
                for other in ("", "0", "-+0", "x", "0000000"):
                    self.assert_error(errors.InvalidWord, (text,), function, text, other)
                for other in ("", "0", "-+0", "000000"):
                    self.assert_error(errors.InvalidWord, (text,), function, other, text)

    def test_unlike_lengths(self):
        for first, second in (("", "0"), ("0", ""), ("-+", "-"), ("000", "000000"), ("++++", "+++")):
            for function in (put_on, differing):
                self.assert_error(errors.InvalidWord, (second,), function, first, second)


# Lists that are not good, each with its error and the values of this.
BAD_LISTS = (
    ([], errors.WrongCount, (1, 0)),
    (["x"], errors.InvalidWord, ("x",)),
    (["0", "x", "y"], errors.InvalidWord, ("x",)),
    (["0", "00", "x"], errors.InvalidWord, ("00",)),
    (["0000000"], errors.InvalidWord, ("0000000",)),
    (["000000", "0000000"], errors.InvalidWord, ("0000000",)),
    (["0", "-", "0", "x"], errors.InvalidWord, ("0",)),
    (["", ""], errors.InvalidWord, ("",)),
    (["", "0"], errors.InvalidWord, ("0",)),
    (["0\n"], errors.InvalidWord, ("0\n",)),
    (["00", "-+", "0"], errors.InvalidWord, ("0",)),
    (list(all_rows(4)[:41]), errors.TooMany, ("rows", 40)),
    (list(all_rows(4)), errors.TooMany, ("rows", 40)),
    (list(all_rows(4)[:41]) + ["0000x"], errors.InvalidWord, ("0000x",)),
    (list(all_rows(4)[:41]) + ["----"], errors.InvalidWord, ("----",)),
    (list(all_rows(3)) * 30, errors.InvalidWord, ("---",)),
    (["0" * 20000], errors.InvalidWord, ("0" * 20000,)),
)
GOOD_LISTS = (["0"], [""], ["-"], ["000000", "+++---"], list(all_rows(4)[:40]), list(all_rows(3)))


class Lists(Asks, unittest.TestCase):
    """Point [87]: lists that are not good, for all functions that take rows."""

    def test_one_list(self):
        for rows, error, values in BAD_LISTS:
            for function in (unclosed, is_arrangement, face_order, zero_lots, zero_order):
                self.assert_error(error, values, function, rows)
                self.assert_error(error, values, function, tuple(rows))

    def test_two_lists(self):
        for rows, error, values in BAD_LISTS:
            for other in GOOD_LISTS:
                for places in ([], [(0, 0)]):
                    self.assert_error(error, values, is_lot_matching, rows, other, places)
                    self.assert_error(error, values, is_lot_matching, other, rows, places)
                self.assert_error(error, values, joined_rows, rows, other)
                self.assert_error(error, values, joined_rows, other, rows)

    def test_two_bad_lists(self):
        sequence = (errors.InvalidWord, errors.WrongCount, errors.TooMany)
        for first, second in itertools.product(BAD_LISTS, repeat=2):
            due = min(first, second, key=lambda told: sequence.index(told[1]))
            self.assert_error(due[1], due[2], is_lot_matching, first[0], second[0], [])
            self.assert_error(due[1], due[2], joined_rows, first[0], second[0])

    def test_forty_rows(self):
        rows = list(all_rows(4)[:40])
        self.assertEqual(unclosed(rows), ("zero",))
        self.assertEqual(len(zero_lots(rows)), 15)
        self.assert_error(errors.TooMany, ("things", 40), face_order, rows)
        self.assert_error(errors.TooMany, ("rows", 40), face_order, rows + ["++++"])
        self.assertIs(is_lot_matching(rows, rows, [(at, at) for at in range(4)]), True)


class Arrangements(Asks, unittest.TestCase):
    """Point [88]."""

    def test_all_rows_and_lines(self):
        for rows in arrangements():
            self.assertIsNone(unclosed(rows), rows)
            self.assertIs(is_arrangement(rows), True)
            self.assertIsNone(unclosed(rows=list(rows)[::-1]))
            self.assertIs(is_arrangement(rows=list(rows)[::-1]), True)

    def test_each_kind_of_fault(self):
        for rows, due in (
            (["-"], ("zero",)), (["-", "+"], ("zero",)), (["--", "-0"], ("zero",)), (["00", "-0"], ("turned", "-0")),
            (["+-", "00", "0-"], ("turned", "+-")), (["-0", "+0", "00", "0-", "0+"], ("put", "-0", "0-")),
            (["00", "0+", "0-", "+0", "-0"], ("put", "0+", "+0")),
            (["00", "--", "++", "-+", "+-"], ("struck", "--", "-+", 1)),
            (["-+", "00", "--", "++", "+-", "0-", "0+"], ("struck", "-+", "--", 1)),
            (["00", "+-", "-+", "++", "--", "-0", "+0"], ("struck", "+-", "--", 0)),
        ):
            self.assertEqual(unclosed(rows), due, rows)
            self.assertEqual(unclosed(rows=tuple(rows)), due)
            self.assertIs(is_arrangement(rows), False)

    def test_the_kinds_are_looked_for_in_their_sequence(self):
        # Without the zero row, the turned rows and what is put on are missing, too.
        self.assertEqual(unclosed(["-0", "0-", "+-"]), ("zero",))
        self.assertEqual(unclosed(["-0", "0-", "+-", "00"]), ("turned", "-0"))
        self.assertEqual(unclosed(["00", "+0", "-0", "0+", "0-", "+-"]), ("turned", "+-"))
        # A pair that should be put on stands behind one with a fault of the last kind.
        rows = ["000", "--0", "++0", "-+0", "+-0", "00+", "00-"]
        self.assertEqual(unclosed(rows), ("put", "--0", "00+"))

    def test_the_first_pair_and_the_least_place(self):
        rows = ["0000", "--++", "++--", "-+-+", "+-+-", "----", "++++", "--+-", "++-+"]
        # The first two rows differ everywhere, so the zero row serves for each place.
        self.assertEqual(unclosed(rows), ("struck", "--++", "-+-+", 1))
        self.assertEqual(unclosed(rows[::-1]), ("struck", "++-+", "++++", 2))
        self.assertEqual(unclosed([*rows, "-00+"]), ("turned", "-00+"))
        self.assertEqual(unclosed([*rows, "-00+", "+00-"]), ("put", "-00+", "----"))

    def test_a_row_and_its_turned_one_need_a_zero_too(self):
        self.assertIsNone(unclosed(["0", "-", "+"]))
        # All places differ, so the zero row serves for each of them.
        self.assertIsNone(unclosed(["00", "--", "++"]))
        self.assertEqual(unclosed(["00", "--", "++", "0-"]), ("turned", "0-"))

    def test_one_row(self):
        for size in range(7):
            self.assertIsNone(unclosed(["0" * size]))
            if size:
                self.assertEqual(unclosed(["-" * size]), ("zero",))

    def test_an_arrangement_less_one_row(self):
        for rows in (all_rows(2), line_rows(3), line_rows(4), all_rows(3)):
            for lost in rows:
                some = [row for row in rows if row != lost]
                fault = unclosed(some)
                if lost == "0" * len(lost):
                    self.assertEqual(fault, ("zero",))
                else:
                    self.assertEqual(fault, ("turned", turned_row(lost)))
                    some.remove(turned_row(lost))
                    self.assertIn(unclosed(some)[0], ("put", "struck"))


class FaceOrders(Asks, unittest.TestCase):
    """Point [89]."""

    def test_small_orders(self):
        self.assert_same_order(face_order([""]), ("r", "top"), (("r", "top"),))
        self.assert_same_order(face_order(rows=["000"]), ("rooo", "top"), (("rooo", "top"),))
        self.assert_same_order(face_order(("+", "0", "-")), ("ro", "rp", "rm", "top"), (
            ("ro", "rp"), ("ro", "rm"), ("rp", "top"), ("rm", "top")))
        self.assertEqual(face_order(line_rows(2)).names, ("roo", "rpo", "rmo", "rop", "rom", "rpp", "rpm", "rmp", "rmm",
                                                          "top"))

    def test_relation(self):
        for rows in arrangements():
            found = face_order(rows)
            names = {row: "r" + row.replace("-", "m").replace("0", "o").replace("+", "p") for row in rows}
            due = {(names[x], names[y]) for x, y in itertools.permutations(rows, 2)
                   if all(v in ("0", w) for v, w in zip(x, y))}
            self.assertEqual(set(relations(found)), due | {(name, "top") for name in names.values()})
            self.assertIs(is_even(found), True)
            self.assertEqual((found.greatest, found.size), ("top", len(rows) + 1))

    def test_given_sequence(self):
        rows = list(line_rows(3))
        random.Random(271).shuffle(rows)
        found = face_order(rows)
        names = ["r" + row.replace("-", "m").replace("0", "o").replace("+", "p") for row in rows]
        self.assertEqual(list(found), sorted(names, key=lambda name: (found.rank(name), names.index(name))) + ["top"])

    def test_matching_with_the_cross(self):
        for size in range(4):
            found = face_order(all_rows(size))
            pairs = [(name, "whole" if name == "top" else "k" + name[1:]) for name in found]
            self.assertIs(is_matching(found, cross(size), pairs), True)
            if size:
                self.assertEqual(found.at_rank(1)[0][1:].count("o"), size - 1)

    def test_lists_that_are_no_arrangements(self):
        # Not all of them are refused.
        self.assert_same_order(face_order(["-"]), ("rm", "top"), (("rm", "top"),))
        self.assert_same_order(face_order(["0", "+"]), ("ro", "rp", "top"), (("ro", "rp"), ("rp", "top")))
        self.assert_error(errors.NoEnd, ("least",), face_order, ["-", "+"])
        self.assert_error(errors.NoEnd, ("least",), face_order, ["-0", "0-", "--"])
        self.assert_error(errors.WrongRank, ("rop", "top"), face_order, ["00", "-0", "--", "0+"])
        self.assert_error(errors.TooMany, ("things", 40), face_order, all_rows(4)[:40])
        self.assertEqual(face_order(["00"] + [row for row in all_rows(2) if "0" not in row]).height, 2)

    def test_thirty_nine_rows(self):
        rows = ["000000"] + [row for row in all_rows(6) if "0" not in row][:38]
        self.assertEqual(face_order(rows).size, 40)
        self.assert_error(errors.TooMany, ("things", 40), face_order, rows + ["++++++"])


class ZeroOrders(Asks, unittest.TestCase):
    """Point [90]."""

    def test_lots(self):
        for rows, due in (([""], ((),)), (["0"], ((0,),)), (["-", "0", "+"], ((0,), ())), (["-0", "0-"], ((0,), (1,))),
                          (["---", "0--", "--0", "-0-", "0-0", "000"], ((0, 1, 2), (0, 2), (0,), (1,), (2,), ())),
                          (line_rows(3), ((0, 1, 2), (0,), (1,), (2,), ())), (["+-", "-+"], ((),))):
            self.assertEqual(zero_lots(rows), due)
            self.assertEqual(zero_lots(rows=list(rows)[::-1]), due)

    def test_small_orders(self):
        self.assert_same_order(zero_order([""]), ("z",), ())
        self.assert_same_order(zero_order(["0000"]), ("z0-1-2-3",), ())
        self.assert_same_order(zero_order(rows=("-", "0", "+")), ("z0", "z"), (("z0", "z"),))
        self.assert_same_order(zero_order(line_rows(3)), ("z0-1-2", "z0", "z1", "z2", "z"), (
            ("z0-1-2", "z0"), ("z0-1-2", "z1"), ("z0-1-2", "z2"), ("z0", "z"), ("z1", "z"), ("z2", "z")))

    def test_arrangements(self):
        for rows in arrangements():
            found = zero_order(rows)
            self.assertEqual(found.least, "z" + "-".join(map(str, range(len(rows[0])))))
            self.assertEqual(found.height, face_order(rows).height - 1)
            names = {"z" + "-".join(map(str, lot)): set(lot) for lot in zero_lots(rows)}
            self.assertEqual(set(relations(found)), {(x, y) for x in names for y in names if names[x] > names[y]})

    def test_lists_that_are_no_arrangements(self):
        self.assert_error(errors.NoEnd, ("least",), zero_order, ["-0", "0-"])
        self.assert_error(errors.NoEnd, ("greatest",), zero_order, ["00", "-0", "0-"])
        self.assert_error(errors.WrongRank, ("z2", "z"), zero_order, ["000", "0-0", "0--", "--0", "---"][:1] + [
            "00-", "0--", "--0", "---"])
        self.assertEqual(zero_order(["-", "+"]).names, ("z",))


class RowCounts(Asks, unittest.TestCase):
    """Point [91]."""

    def test_small_orders(self):
        self.assertEqual(row_count(two(), "a", "b"), 2)
        self.assertEqual(row_count(order=line(3), low="t0", high="t2"), 2)
        self.assertEqual(row_count(diamond(), "w", "z"), 4)
        self.assertEqual(row_count(wide(40), "n", "o"), 37 + 38 + 1)
        for order in (one(), diamond(), widest()):
            for name in order:
                self.assertEqual(row_count(order, name, name), 1)

    def test_the_sum_that_the_document_tells(self):
        for order in random_orders(random.Random(272), 20) + [crooked(), skew(), beside()]:
            for low, high in itertools.product(order.names, repeat=2):
                if order.is_at_most(low, high):
                    due = sum((-1) ** (order.rank(high) - order.rank(z)) * mu(order, z, high)
                              for z in order if order.is_at_most(low, z) and order.is_at_most(z, high))
                    self.assertEqual(row_count(order, low, high), due)
                else:
                    self.assert_error(errors.NotBelow, (low, high), row_count, order, low, high)

    def test_unknown_names(self):
        for low, high, name in (("q", "w", "q"), ("w", "q", "q"), ("q", "q", "q"), ("r", "q", "r"), ("z", "", "")):
            self.assert_error(errors.UnknownName, (name,), row_count, diamond(), low, high)

    def test_numbers_of_rows(self):
        for rows in arrangements():
            order = zero_order(rows)
            for row in rows:
                low = "z" + "-".join(map(str, zero_lot(row)))
                above = [other for other in rows if all(v in ("0", w) for v, w in zip(row, other))]
                for high in order:
                    if order.is_at_most(low, high):
                        due = [other for other in above if "z" + "-".join(map(str, zero_lot(other))) == high]
                        self.assertEqual(row_count(order, low, high), len(due))

    def test_counts(self):
        self.assertEqual(row_counts(one()), Counts(0, {(): 1}))
        self.assertEqual(row_counts(order=two()), Counts(1, {(): 1, (1,): 2}))
        self.assertEqual(row_counts(line(3)), Counts(2, {(): 1, (1,): 2, (2,): 2, (1, 2): 4}))
        self.assertEqual(row_counts(diamond()), Counts(2, {(): 1, (1,): 4, (2,): 4, (1, 2): 8}))
        for order in (widest(), line(10), full(2, 2, 2, 2, 2, 2, 2, 2)):
            found = row_counts(order)
            self.assertEqual((found.weight, found[()]), (9, 1))
            self.assertEqual(found[(9,)], row_count(order, order.least, order.greatest))

    def test_counts_of_arrangements(self):
        for rows in arrangements():
            self.assertEqual(row_counts(zero_order(rows)), alphas(face_order(rows)))


class LotSums(Asks, unittest.TestCase):
    """Point [92]."""

    def test_small_orders(self):
        self.assert_sum(lot_sum(one()), "cd", 0, (("", 1),))
        self.assert_sum(lot_sum(order=two()), "cd", 1, (("c", 1),))
        self.assert_sum(lot_sum(line(3)), "cd", 2, (("cc", 1),))
        self.assert_sum(lot_sum(diamond()), "cd", 2, (("cc", 1), ("d", 2)))
        self.assert_sum(lot_sum(line(10)), "cd", 9, (("c" * 9, 1),))

    def test_row_counts_and_twos(self):
        orders = random_orders(random.Random(273), 40) + even_orders()
        orders += [one(), crooked(), skew(), beside(), wide(40), widest(), line(10), cube(2), polygon(5), simplex(4)]
        for order in orders:
            found = lot_sum(order)
            self.assertEqual((found.letters, found.weight), ("cd", order.height))
            self.assertEqual(spread(found), sum_of_betas(betas_of_alphas(row_counts(order))))
            self.assertIsNone(undoubled_term(found))
            for word, number in found.terms:
                self.assertEqual(number % 2 ** word.count("d"), 0)

    def test_arrangements(self):
        for rows in arrangements():
            self.assertEqual(cd_sum(face_order(rows)), lot_sum(zero_order(rows)))

    def test_lines(self):
        for count in range(2, 7):
            due = WordSum("cd", 2, [("cc", 1), ("d", 2 * count - 2)])
            self.assertEqual(lot_sum(zero_order(line_rows(count))), due)

    def test_undoubled_terms(self):
        for weight, terms, due in (
            (0, [("", 1)], None), (1, [("c", -3)], None), (2, [("d", 1)], ("d", 1)), (2, [("d", 2)], None),
            (2, [("d", -1)], ("d", -1)), (2, [("d", -2)], None), (2, [("cc", 3), ("d", 4)], None),
            (4, [("dd", 2)], ("dd", 2)), (4, [("dd", 4)], None), (4, [("dd", -6)], ("dd", -6)), (4, [("dd", -4)], None),
            (4, [("ccd", 2), ("cdc", 1), ("dcc", 1)], ("cdc", 1)), (4, [("ccd", 2), ("dd", 6), ("dcc", 3)], ("dcc", 3)),
            (8, [("dddd", 8)], ("dddd", 8)), (8, [("dddd", 16)], None), (9, [("ddddc", -BIG)], None),
            (9, [("cdddd", 1 - BIG)], ("cdddd", 1 - BIG)), (8, [("dddd", 24)], ("dddd", 24)),
        ):
            self.assertEqual(undoubled_term(WordSum("cd", weight, terms)), due)
            self.assertEqual(undoubled_term(word_sum=WordSum("cd", weight, terms)), due)

    def test_undoubled_zero_sums_and_letters_ab(self):
        for weight in range(10):
            self.assertIsNone(undoubled_term(zero_sum("cd", weight)))
        for word_sum in AB_SUMS:
            self.assert_error(errors.InvalidLetters, ("ab",), undoubled_term, word_sum)

    def test_undoubled_sums(self):
        source = random.Random(274)
        for weight in range(10):
            for word_sum in some_sums("cd", weight, source, 6):
                due = [term for term in word_sum.terms if term[1] % 2 ** term[0].count("d") != 0]
                self.assertEqual(undoubled_term(word_sum), (due + [None])[0])


class Matchings(Asks, unittest.TestCase):
    """Point [93]: `is_lot_matching`."""

    def test_places(self):
        rows, other = ["000", "0-+", "-00", "---"], ["000", "+-0", "00+", "+++"]
        for places, due in (
            ([(0, 2), (1, 1), (2, 0)], True), ([[2, 0], [0, 2], [1, 1]], True), ([(0, 2), (1, 0), (2, 1)], True),
            ([(0, 0), (1, 1), (2, 2)], False), ([(0, 2), (1, 1)], False), ([(0, 2), (1, 1), (2, 1)], False),
            ([(0, 2), (1, 1), (1, 0)], False), ([(0, 2), (1, 1), (2, 0), (2, 0)], False), ([], False),
            ([(0, 2), (1, 1), (3, 0)], False), ([(0, 2), (1, 1), (2, 3)], False), ([(0, 2), (1, 1), (-1, 0)], False),
            ([(0, 2), (1, 1), (2, -1)], False), ([(0, 2), (1, 1), (BIG, -BIG)], False),
            ([(0, 2), (1, 1), (2, 0), (3, 3)], False), ([(0, 2)] * 3, False), ([(0, 2), (1, 1), (2, 0)] * 300, False),
        ):
            self.assertIs(is_lot_matching(rows, other, places), due)
            self.assertIs(is_lot_matching(rows=tuple(rows), other=tuple(other), places=tuple(places)), due)

    def test_lots_count_once(self):
        self.assertIs(is_lot_matching(["-0", "+0"], ["-0"], [(0, 0), (1, 1)]), True)
        self.assertIs(is_lot_matching(["-0", "+0"], ["0-"], [(0, 0), (1, 1)]), False)
        self.assertIs(is_lot_matching(["-0", "+0"], ["0-"], [(0, 1), (1, 0)]), True)
        self.assertIs(is_lot_matching(["-0", "00"], ["-0"], [(0, 0), (1, 1)]), False)
        self.assertIs(is_lot_matching(["-0"], ["-0", "00"], [(0, 0), (1, 1)]), False)

    def test_rows_of_length_zero_and_unlike_lengths(self):
        self.assertIs(is_lot_matching([""], [""], []), True)
        self.assertIs(is_lot_matching([""], [""], [(0, 0)]), False)
        for rows, other in (([""], ["0"]), (["0"], [""]), (["0"], ["00"]), (["00"], ["0"]), (["-"], ["--"])):
            for places in ([], [(0, 0)], [(0, 0), (1, 1)], [(0, 0), (0, 1)], [(0, 0), (1, 0)]):
                self.assertIs(is_lot_matching(rows, other, places), False)

    def test_matched_arrangements_have_equal_sums(self):
        rows = all_rows(2)
        other = [row[::-1] for row in line_rows(2)]
        for places in ([(0, 0), (1, 1)], [(0, 1), (1, 0)]):
            self.assertIs(is_lot_matching(rows, other, places), True)
        self.assertEqual(cd_sum(face_order(rows)), cd_sum(face_order(other)))
        # Signs turned on one place change the rows, but not the zero lots.
        rows = line_rows(4)
        other = [row[:3] + turned_row(row[3:]) for row in rows]
        self.assertNotEqual(set(rows), set(other))
        for image in itertools.permutations(range(4)):
            self.assertIs(is_lot_matching(rows, other, list(enumerate(image))), True)
        self.assertEqual(cd_sum(face_order(rows)), cd_sum(face_order(other)))


class MadeRows(Asks, unittest.TestCase):
    """Point [93]: `line_rows` and `joined_rows`."""

    def test_lines(self):
        self.assertEqual(line_rows(1), ("+", "-", "0"))
        self.assertEqual(line_rows(count=2), ("++", "+-", "+0", "-+", "--", "-0", "0+", "0-", "00"))
        self.assertEqual(line_rows(3), ("+++", "++-", "++0", "+--", "+0-", "-++", "--+", "---", "--0", "-0+", "0++",
                                        "0--", "000"))
        for count in range(2, 7):
            self.assertEqual(len(line_rows(count)), 4 * count + 1)
        for count in range(1, 7):
            self.assertEqual(list(line_rows(count)), sorted(set(line_rows(count))))
            self.assertIs(is_arrangement(line_rows(count)), True)

    def test_other_numbers_of_lines(self):
        for count in (0, -1, 7, 8, BIG, -BIG):
            self.assert_error(errors.InvalidSize, (count,), line_rows, count)

    def test_joined_rows(self):
        self.assertEqual(joined_rows(["+", "-"], ["0", "+"]), ("+0", "++", "-0", "-+"))
        self.assertEqual(joined_rows(first=("+0",), second=("-",)), ("+0-",))
        self.assertEqual(joined_rows([""], ["0", "-"]), ("0", "-"))
        self.assertEqual(joined_rows([""], [""]), ("",))
        self.assertEqual(set(joined_rows(all_rows(1), all_rows(2))), set(all_rows(3)))

    def test_joined_arrangements(self):
        for first, second in itertools.product(arrangements(), repeat=2):
            if len(first[0]) + len(second[0]) <= 6 and len(first) * len(second) <= 40:
                self.assertIs(is_arrangement(joined_rows(first, second)), True)

    def test_lengths_and_numbers_of_rows(self):
        self.assertEqual(len(joined_rows(["000", "---"], ["000", "+++"])[0]), 6)
        self.assertEqual(len(joined_rows(all_rows(2)[:5], all_rows(2)[:8])), 40)
        for first, second in ((["0000"], ["000"]), (["0"], ["000000"]), (["000000"], ["0"])):
            self.assert_error(errors.InvalidSize, (7,), joined_rows, first, second)
        self.assert_error(errors.InvalidSize, (12,), joined_rows, ["0" * 6], ["0" * 6])
        self.assert_error(errors.TooMany, ("rows", 40), joined_rows, all_rows(3)[:7], all_rows(2)[:6])
        self.assert_error(errors.TooMany, ("rows", 40), joined_rows, all_rows(3)[:21], ["0", "-"])
        # The length goes before the number of joined rows, but behind what is wrong with a list.
        self.assert_error(errors.InvalidSize, (7,), joined_rows, all_rows(4)[:20], all_rows(3)[:20])
        self.assert_error(errors.TooMany, ("rows", 40), joined_rows, all_rows(4)[:41], all_rows(3)[:20])
        self.assert_error(errors.TooMany, ("rows", 40), joined_rows, all_rows(3)[:20], all_rows(4)[:41])
        self.assert_error(errors.WrongCount, (1, 0), joined_rows, all_rows(4)[:41], [])
        self.assert_error(errors.InvalidWord, ("x",), joined_rows, [], ["x"])


if __name__ == "__main__":
    unittest.main()

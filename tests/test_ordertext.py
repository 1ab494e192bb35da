"""The module evenodds.ordertext: points [16] and [17]."""

import random
import unittest

from evenodds import errors
from evenodds.edits import apply_edit
from evenodds.orders import Order
from evenodds.ordertext import format_edit, format_order, parse_edit, parse_order
from plain import tuples_only
from samples import (
    WRONG_FORMS,
    Asks,
    crooked,
    diamond,
    line,
    line_lists,
    one,
    random_orders,
    triangle,
    two,
    wide,
    widest,
)

LONG = "abcdefghijklmnopqrstuvw-"
CROOKED = "bot: b a c\nb: k j\na: k x\nc: x\nk: top\nj: top\nx: top\ntop:"

# Lines that are not good, whatever stands around them.
BAD_LINES = (
    "", " ", ":", " :", "a", "a b", "a,b", "a :", " a:", "a: ", "a: b ", "a:  b", "a: b  c", "a:b", "a:b c", "a: b,c",
    "a::", "a:: b", "a: b:", "a: b: c", "a: :", "A:", "a: B", "a: b_", "a.:", ".:", "a: .", "a; b", "a = b", "a/b:",
    LONG + "x:", "a: " + LONG + "x", "a: b " + LONG + "x c", "~:", "a: ~", "a:: ", ": a", "a: b: ",
)


class OrderTexts(Asks, unittest.TestCase):
    def test_one_line_for_each_thing_by_place(self):
        self.assertEqual(format_order(one()), "x:")
        self.assertEqual(format_order(two()), "a: b\nb:")
        self.assertEqual(format_order(diamond()), "w: y x\ny: z\nx: z\nz:")
        self.assertEqual(format_order(crooked()), CROOKED)
        self.assertEqual(format_order(order=line(3)), "t0: t1\nt1: t2\nt2:")

    def test_upper_things_stand_by_place_not_as_they_were_passed(self):
        covers = [("x", "z"), ("w", "y"), ("y", "z"), ("w", "x")]
        self.assertEqual(format_order(Order(["w", "z", "x", "y"], covers)), "w: x y\nx: z\ny: z\nz:")
        self.assertEqual(format_order(Order(["w", "z", "y", "x"], covers)), "w: y x\ny: z\nx: z\nz:")

    def test_lines_may_stand_in_any_sequence(self):
        for order in (diamond(), crooked()):
            lines = format_order(order).split("\n")
            source = random.Random(3)
            for _ in range(20):
                source.shuffle(lines)
                told = [text.partition(":")[0] for text in lines]
                self.assertEqual(parse_order("\n".join(lines)), Order(told, order.covers))

    def test_the_given_sequence_is_that_of_the_lines(self):
        self.assert_same_order(parse_order("z:\nx: z\ny: z\nw: y x"), ("w", "x", "y", "z"),
                               (("w", "x"), ("w", "y"), ("x", "z"), ("y", "z")))
        self.assert_same_order(parse_order("y: z\nw: x y\nx: z\nz:"), ("w", "y", "x", "z"),
                               (("w", "y"), ("w", "x"), ("y", "z"), ("x", "z")))

    def test_names_behind_the_colon_may_stand_in_any_sequence(self):
        for text in ("w: y x\ny: z\nx: z\nz:", "w: x y\ny: z\nx: z\nz:"):
            self.assertEqual(parse_order(text=text), diamond())

    def test_small_texts(self):
        self.assert_same_order(parse_order("x:"), ("x",), ())
        self.assert_same_order(parse_order("b:\na: b"), ("a", "b"), (("a", "b"),))
        self.assert_same_order(parse_order("-: 0\n0: -1-\n-1-:"), ("-", "0", "-1-"), (("-", "0"), ("0", "-1-")))

    def test_names_of_24_characters(self):
        self.assertEqual(len(LONG), 24)
        order = Order([LONG, "9" * 24], [(LONG, "9" * 24)])
        self.assertEqual(format_order(order), LONG + ": " + "9" * 24 + "\n" + "9" * 24 + ":")
        self.assertEqual(parse_order(format_order(order)), order)

    def test_reading_undoes_writing(self):
        orders = [one(), two(), diamond(), crooked(), triangle(), line(10), wide(40), widest()]
        for order in orders + random_orders(random.Random(4), 50):
            text = format_order(order)
            self.assertIs(text.__class__, str)
            self.assertEqual(parse_order(text), order)
            self.assertEqual(format_order(parse_order(text)), text)

    def test_forty_lines(self):
        text = format_order(wide(40))
        self.assertEqual(text.count("\n"), 39)
        self.assertEqual(parse_order(text).size, 40)


class OrderTextForms(Asks, unittest.TestCase):
    """Texts with lines that are not good."""

    def test_the_forms_that_the_document_names(self):
        self.assert_error(errors.InvalidText, (1,), parse_order, "")
        self.assert_error(errors.InvalidText, (2,), parse_order, "a: b\n\nb:")
        self.assert_error(errors.InvalidText, (2,), parse_order, "a: b\nb: ")
        self.assert_error(errors.InvalidText, (1,), parse_order, "a: b \nb:")
        self.assert_error(errors.InvalidText, (1,), parse_order, "a:  b\nb:")
        self.assert_error(errors.InvalidText, (3,), parse_order, "a: b\nb:\n")
        self.assert_error(errors.InvalidText, (1,), parse_order, "\na: b\nb:")
        self.assert_error(errors.InvalidText, (1,), parse_order, "\n")
        self.assert_error(errors.InvalidText, (2,), parse_order, "x:\n")
        self.assert_error(errors.InvalidText, (2,), parse_order, "a: " + LONG + "\n" + LONG + "x:")

    def test_each_bad_line_at_each_place(self):
        for bad in BAD_LINES:
            self.assert_error(errors.InvalidText, (1,), parse_order, bad)
            lines = format_order(crooked()).split("\n")
            for at in range(len(lines) + 1):
                text = "\n".join(lines[:at] + [bad] + lines[at:])
                self.assert_error(errors.InvalidText, (at + 1,), parse_order, text)

    def test_the_first_bad_line_is_told(self):
        self.assert_error(errors.InvalidText, (2,), parse_order, "a: b\nb\nc\n\n")
        self.assert_error(errors.InvalidText, (3,), parse_order, "a: b\nb: c\nc\nd:  e\nB:")

    def test_a_bad_line_goes_before_the_errors_of_the_order(self):
        self.assert_error(errors.InvalidText, (3,), parse_order, "a: b\na: b\n")
        self.assert_error(errors.InvalidText, (3,), parse_order, "a: q\nb: r r\nc")
        self.assert_error(errors.InvalidText, (2,), parse_order, "a: a\nb :")
        self.assert_error(errors.InvalidText, (2,), parse_order, "a: b c c\nB:")
        text = format_order(Order(*line_lists(10))) + "\n"
        self.assert_error(errors.InvalidText, (11,), parse_order, text)
        many = "\n".join(f"t{k}:" for k in range(41))
        self.assert_error(errors.InvalidText, (42,), parse_order, many + "\n")

    def test_a_text_that_is_no_name_is_never_an_invalid_name(self):
        for text in ("B:", "a: B\nB:", "a b: c", "a\n: b", LONG + "x:"):
            self.assertRaises(errors.InvalidText, parse_order, text)


class OrderTextErrors(Asks, unittest.TestCase):
    """The errors of `Order` for texts with good lines."""

    def test_names(self):
        self.assert_error(errors.DuplicateName, ("a",), parse_order, "a: b\nb:\na:")
        self.assert_error(errors.DuplicateName, ("b",), parse_order, "a: q\nb:\nb:\na:")
        self.assert_error(errors.UnknownName, ("q",), parse_order, "a: b q\nb: r")
        self.assert_error(errors.UnknownName, ("r",), parse_order, "b: r\na: b q")

    def test_covers_are_taken_line_by_line(self):
        self.assert_error(errors.DuplicateCover, ("w", "x"), parse_order, "w: y x x y\ny: z z\nx: z\nz:")
        self.assert_error(errors.DuplicateCover, ("y", "z"), parse_order, "x: z\ny: z z\nw: y x x y\nz:")
        self.assert_error(errors.WrongRank, ("w", "z"), parse_order, "w: y z x\ny: z\nx: z\nz:")
        text = "t4: t5\n{}\nt1: t2\nt2: t3 t4\nt3: t4\nt5:"
        self.assert_error(errors.WrongRank, ("t0", "t2"), parse_order, text.format("t0: t1 t2 t3"))
        self.assert_error(errors.WrongRank, ("t0", "t3"), parse_order, text.format("t0: t3 t2 t1"))
        text = "t4: t5\nt1: t2\nt2: t3 t4\nt3: t4\nt0: t1 t2\nt5:"
        self.assert_error(errors.WrongRank, ("t2", "t4"), parse_order, text)

    def test_rings_and_ends(self):
        self.assert_error(errors.RingFound, ("a",), parse_order, "a: a")
        self.assert_error(errors.RingFound, ("c",), parse_order, "a: b\nc: b\nb: c\nd:")
        self.assert_error(errors.RingFound, ("b",), parse_order, "a: b\nb: c\nc: b\nd:")
        self.assert_error(errors.NoEnd, ("least",), parse_order, "a:\nb:")
        self.assert_error(errors.NoEnd, ("least",), parse_order, "a: c\nb: c\nc:")
        self.assert_error(errors.NoEnd, ("greatest",), parse_order, "a: b c\nb:\nc:")

    def test_bounds(self):
        names, covers = line_lists(11)
        text = "\n".join(f"{low}: {high}" for low, high in covers) + f"\n{names[-1]}:"
        self.assert_error(errors.TooHigh, (10,), parse_order, text)
        self.assertEqual(parse_order(format_order(line(10))), line(10))
        many = format_order(wide(40)).replace("n:", "n: v") + "\nv: o"
        self.assert_error(errors.TooMany, ("things", 40), parse_order, many)
        self.assert_error(errors.TooMany, ("things", 40), parse_order, many.replace("v: o", "v: v"))
        self.assert_error(errors.DuplicateCover, ("v", "o"), parse_order, many + " o")
        self.assert_error(errors.UnknownName, ("q",), parse_order, many + " q")
        self.assert_error(errors.DuplicateName, ("m0",), parse_order, many + "\nm0: o")

    def test_many_covers(self):
        # More covers than a list that is passed may have items.
        names = [f"{k}-" for k in range(40)]
        text = "\n".join(" ".join([f"{name}:"] + names[at + 1:] * 3) for at, name in enumerate(names))
        self.assertLessEqual(len(text), 20000)
        self.assert_error(errors.DuplicateCover, ("0-", "1-"), parse_order, text)
        self.assert_error(errors.UnknownName, ("q",), parse_order, "a:" + " a" * 9990 + " q")
        self.assert_error(errors.InvalidText, (1,), parse_order, "a:" + " a" * 9990 + " ")
        self.assert_error(errors.DuplicateName, ("a",), parse_order, "\n".join(["a:"] * 6000))
        self.assert_error(errors.InvalidText, (6001,), parse_order, "a:\n" * 6000)


class EditTexts(unittest.TestCase):
    """Each form both ways."""

    pairs = (
        (("add", "x", ("a", "b"), ()), "add x a,b ."),
        (("add", "x", (), ("a",)), "add x . a"),
        (("add", "x", (), ()), "add x . ."),
        (("add", "x", ("c", "a", "b"), ("e", "d")), "add x c,a,b e,d"),
        (("add", "x", ("x",), ("x", "x")), "add x x x,x"),
        (("add", "x", ("a", "a"), ("a",)), "add x a,a a"),
        (("add", "add", ("drop",), ("-",)), "add add drop -"),
        (("add", "-", ("-", "--"), ("0",)), "add - -,-- 0"),
        (("drop", "x"), "drop x"),
        (("drop", "drop"), "drop drop"),
        (("cover", "a", "b"), "cover a b"),
        (("cover", "a", "a"), "cover a a"),
        (("uncover", "b", "a"), "uncover b a"),
        (("rename", "old", "new"), "rename old new"),
        (("rename", "a", "a"), "rename a a"),
        (("rename", LONG, "7" * 24), "rename " + LONG + " " + "7" * 24),
        (("add", LONG, (LONG, "a"), ("b", LONG)), f"add {LONG} {LONG},a b,{LONG}"),
    )

    def test_writing(self):
        for edit, text in self.pairs:
            self.assertEqual(format_edit(edit), text)
            self.assertIs(format_edit(edit).__class__, str)
            given = [list(part) if isinstance(part, tuple) else part for part in edit]
            self.assertEqual(format_edit(given), text)
            self.assertEqual(format_edit(edit=tuple(given)), text)

    def test_reading(self):
        for edit, text in self.pairs:
            found = parse_edit(text)
            self.assertEqual(found, edit)
            self.assertEqual([part.__class__ for part in (found,) + found],
                             [part.__class__ for part in (edit,) + edit])
            self.assertEqual(parse_edit(line=text), edit)

    def test_the_example_of_the_document(self):
        self.assertEqual(format_edit(("add", "x", ["a", "b"], [])), "add x a,b .")

    def test_an_edit_that_was_read_can_be_applied(self):
        due = apply_edit(diamond(), ("add", "v", ["w"], ["z"]))
        self.assertEqual(apply_edit(diamond(), parse_edit("add v w z")), due)
        self.assertEqual(apply_edit(two(), parse_edit("add c b .")).names, ("a", "b", "c"))

    def test_long_lists(self):
        names = tuple(f"t{k}" for k in range(1000))
        edit = ("add", "x", names, names[:500])
        self.assertEqual(parse_edit(format_edit(edit)), edit)


class EditTextErrors(Asks, unittest.TestCase):
    def test_wrong_forms(self):
        for edit in WRONG_FORMS:
            self.assert_error(errors.InvalidEdit, (tuples_only(edit),), format_edit, edit)

    def test_the_form_goes_before_the_names(self):
        self.assert_error(errors.InvalidEdit, (("drop", "B", "C"),), format_edit, ("drop", "B", "C"))
        self.assert_error(errors.InvalidEdit, (("add", "B", ("C",)),), format_edit, ["add", "B", ["C"]])
        self.assert_error(errors.InvalidEdit, (("Rename", "B", ""),), format_edit, ("Rename", "B", ""))

    def test_the_examples_of_the_document(self):
        self.assert_error(errors.InvalidName, ("B",), format_edit, ("add", "x", ["a", "B"], []))
        self.assert_error(errors.InvalidName, ("a,b",), format_edit, ("add", "x", ["a,b"], []))
        self.assert_error(errors.InvalidName, (".",), format_edit, ("add", "x", ["."], []))
        self.assert_error(errors.InvalidName, (".",), format_edit, ("add", "x", ["a"], ["."]))

    def test_each_name_is_judged(self):
        for bad in ("", ".", "a,b", "B", "a b", " a", "a\n", "a_b", LONG + "x", "~" * 20000):
            edits = (
                ("drop", bad), ("cover", bad, "a"), ("cover", "a", bad), ("uncover", bad, "a"), ("uncover", "a", bad),
                ("rename", bad, "a"), ("rename", "a", bad), ("add", bad, [], []), ("add", "a", [bad], []),
                ("add", "a", [], [bad]), ("add", "a", ["b", "c", bad], ["b"]), ("add", "a", ["b"], ["b", "c", bad]),
            )
            for edit in edits:
                self.assert_error(errors.InvalidName, (bad,), format_edit, edit)

    def test_the_first_name_in_the_sequence_of_the_text(self):
        for name, edit in (
            ("A", ["add", "A", ["b", "C", "D"], ["E", "f", "G"]]),
            ("C", ["add", "a", ["b", "C", "D"], ["E", "f", "G"]]),
            ("D", ["add", "a", ["b", "c", "D"], ["E", "f", "G"]]),
            ("E", ["add", "a", ["b", "c"], ["E", "f", "G"]]),
            ("G", ["add", "a", ["b", "c"], ["f", "G"]]),
        ):
            self.assert_error(errors.InvalidName, (name,), format_edit, edit)
        for word in ("cover", "uncover", "rename"):
            self.assert_error(errors.InvalidName, ("Z",), format_edit, (word, "Z", "A"))
            self.assert_error(errors.InvalidName, ("A",), format_edit, (word, "z", "A"))

    def test_texts_that_are_no_edit(self):
        texts = (
            "", " ", "\n", "add", "drop", "cover", "x", "add x", "add x a", "add x . . .", "add x a b c", "drop ",
            "drop a b", "cover a", "cover a b c", "uncover a", "uncover a b c", "rename a", "rename a b c", "turn a",
            "Drop a", "DROP a", "drops a", "dro a", "remove a", ". a", "drop  a", "cover  a b", "cover a  b",
            " drop a", "drop a ", "cover a b ", "drop a\n", "\ndrop a", "drop a\ndrop b", "drop a\n\n", "drop\na",
            "add x a, .", "add x ,a .", "add x a,,b .", "add x , .", "add x . ,", "add x . a,", "add x . ,a",
            "add x .,a .", "add x a,. .", "add x . .,.", "add x .. .", "add x a;b .", "add x a, b .", "add x a ,b .",
            "add . . .", "add x,y . .", "add x a", "add x  a", "add x a .\n", "add x . .\nadd y . .", "add x . . ",
            "drop .", "drop a,b", "cover . a", "cover a .", "rename a .", "cover a,b c", "rename a b,c",
            "drop A", "cover a B", "cover B a", "rename a B", "uncover a_ b", "add X . .", "add x B .", "add x . B",
            "add x a,B .", "add x . a,B,c", f"drop {LONG}x", f"add x a,{LONG}x .", "drop ~", "add: x . .", "drop: a",
            "add x [] []", "add x () ()", "add x -", "invalid",
        )
        for text in texts:
            self.assert_error(errors.InvalidText, (1,), parse_edit, text)

    def test_long_texts(self):
        self.assert_error(errors.InvalidText, (1,), parse_edit, "a" * 20000)
        self.assert_error(errors.InvalidText, (1,), parse_edit, " " * 20000)
        self.assert_error(errors.InvalidText, (1,), parse_edit, "add x " + "a," * 9990 + " .")


if __name__ == "__main__":
    unittest.main()

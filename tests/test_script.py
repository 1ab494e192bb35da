"""The module evenodds.script: point [75]."""

import unittest

from evenodds.bruhat import rearrangements
from evenodds.engine import Engine
from evenodds.faces import cross, cube, polygon, simplex
from evenodds.orders import Order
from evenodds.ordertext import format_order
from evenodds.products import prism, pyramid, turned
from evenodds.script import run
from samples import Asks, crooked, diamond, full, line, one, skew, two, wide, widest

LONG = "a" * 25
GREAT = "a" * 24


class Scripts(Asks, unittest.TestCase):
    def assert_answers(self, lines, answers, start=None):
        found = run("\n".join(lines), start=start)
        self.assertIs(found.__class__, tuple)
        self.assertEqual(found, tuple(answers))
        for item in found:
            self.assertIs(item.__class__, str)

    def assert_one(self, line, answer, start=None):
        """A line alone, and between two others that tell whether the engine is as before."""
        self.assert_answers([line], [answer], start)
        size = run("ask size", start=start)[0]
        if answer.startswith("error"):
            self.assert_answers(["ask size", line, "ask size", "undo"], [size, answer, size, "error NoStep"], start)

    def test_the_example_of_the_document(self):
        self.assertEqual(run("body polygon 4\nask verdict\nundo\nundo\nask size"),
                         ("ok", "even cc + 2d", "ok", "error NoStep", "1"))

    def test_the_examples_inside_the_point(self):
        for given, answer in (("body cone 4", "error InvalidQuestion"), ("body cone 04", "error InvalidText"),
                              ("body cone 00", "error InvalidText"), ("body cone 100", "error InvalidText"),
                              ("body cube 99", "error InvalidSize"), ("make size", "error InvalidQuestion"),
                              ("ask turned", "error InvalidQuestion"), (" ", "error InvalidText")):
            self.assert_one(given, answer)

    def test_no_start_none_and_an_order(self):
        self.assertEqual(run("ask order"), ("x:",))
        self.assertEqual(run("ask order", start=None), ("x:",))
        self.assertEqual(run(text="ask order", start=diamond()), (format_order(diamond()),))
        self.assertEqual(run("ask order", start=Order(["x"], [])), ("x:",))
        self.assertEqual(run("undo", start=diamond()), ("error NoStep",))

    def test_the_start_is_not_changed(self):
        start = diamond()
        run("drop x\nmake pyramid\ncross b0\nbody cube 3", start=start)
        self.assertEqual(start, diamond())
        self.assertEqual(run("ask size", start=start), ("4",))

    def test_lines_without_characters(self):
        self.assertEqual(run(""), ())
        self.assertEqual(run("\n\n\n"), ())
        self.assertEqual(run("\nask size\n\n\nask height\n"), ("1", "0"))
        self.assertEqual(run(" \n  \n\n   "), ("error InvalidText",) * 3)

    def test_edits(self):
        self.assert_answers(
            ["add y x .", "ask order", "add z y .", "drop y", "rename y v", "uncover x v", "undo", "undo", "undo",
             "redo", "add u x y", "cover x u", "ask size"],
            ["ok", "x: y\ny:", "ok", "error NoEnd", "ok", "error NoEnd", "ok", "ok", "ok", "ok", "error WrongRank",
             "error UnknownName", "2"])
        self.assert_answers(["drop x", "add x w z", "add v w,x,y z", "add v w . .", "ask size", "uncover w y",
                             "cover w z", "rename x x", "rename x y", "rename q y", "rename q q"],
                            ["ok", "ok", "error WrongRank", "error InvalidText", "4", "error NoEnd", "error WrongRank",
                             "ok", "error DuplicateName", "error DuplicateName", "error UnknownName"], diamond())

    def test_each_error_of_an_edit(self):
        for given, label in (("add x x .", "DuplicateName"), ("add y q .", "UnknownName"), ("add y y .", "RingFound"),
                             ("add y x,x .", "DuplicateCover"), ("drop q", "UnknownName"), ("drop x", "NoEnd"),
                             ("cover x x", "RingFound"), ("uncover x x", "MissingCover"), ("add y . .", "NoEnd"),
                             ("rename q x", "DuplicateName"), ("cover x q", "UnknownName"),
                             (f"add {LONG} x .", "InvalidText"),
                             (f"rename x {LONG}", "InvalidText"), (f"drop {LONG}", "InvalidText"),
                             (f"add y {LONG} .", "InvalidText"), (f"cover x {GREAT}", "UnknownName")):
            self.assert_one(given, f"error {label}")
        self.assert_one(f"rename x {GREAT}", "ok")
        self.assert_one("add x-1 t9 .", "error TooHigh", line(10))
        self.assert_one("add x-1 m1-0 o", "ok", full(2, 2))
        self.assert_one("add x-1 n o", "error TooMany", wide(40))
        self.assert_one("cover w y", "error DuplicateCover", diamond())

    def test_make(self):
        for word, function in (("turned", turned), ("pyramid", pyramid), ("prism", prism)):
            self.assert_answers([f"make {word}", "ask order"], ["ok", format_order(function(skew()))], skew())
        self.assert_one("make prism", "error TooLow")
        self.assert_one("make pyramid", "error TooMany", wide(40))
        self.assert_one("make pyramid", "error TooHigh", line(10))
        for word in ("size", "Turned", "prisms", "undo", "turned,", ".", "1", "a,b", "body", "-", "turned-prism",
                     "cube"):
            self.assert_one(f"make {word}", "error InvalidQuestion")
        for text in ("make", "make ", "make  turned", "make turned ", " make turned", "make turned turned",
                     "make size x", "maketurned", "Make turned", "make  ", "make turned prism "):
            self.assert_one(text, "error InvalidText")

    def test_cross(self):
        self.assert_answers(["cross w", "cross s0-3,s0-3", "ask order"],
                            ["ok", "ok", "s0-3: s0-1 s0-2\ns0-1: top\ns0-2: top\ntop:"], diamond())
        for text, answer in (("cross w,x", "ok"), ("cross x,w,x", "ok"), ("cross .", "error BadBorder"),
                             ("cross w,x,y,z", "error BadBorder"), ("cross x", "error NotClosed"),
                             ("cross q", "error UnknownName"), ("cross x,q", "error UnknownName"),
                             (f"cross {GREAT}", "error UnknownName"), ("cross w,y,w,y,w", "ok")):
            self.assert_one(text, answer, diamond())
        for text in ("cross", "cross ", "cross w ", "cross w x", "cross w,", "cross ,w", "cross w,,x", "cross ,",
                     "cross w,.",
                     "cross ..", "cross .,w", "cross W", f"cross {LONG}", f"cross w,{LONG}", "cross w, x", " cross w",
                     "cross  w", "cross w,x,", "cross w;x", "cross w.", "Cross w"):
            self.assert_one(text, "error InvalidText", diamond())
        self.assert_one("cross n", "ok", wide(40))
        self.assert_one("cross n," + ",".join(f"m1-{k}" for k in range(19)), "error TooMany", full(19, 19))

    def test_bodies(self):
        for word, function, sizes in (("polygon", polygon, range(2, 20)), ("simplex", simplex, range(6)),
                                      ("cube", cube, range(4)), ("cross", cross, range(4)),
                                      ("rearrangements", rearrangements, range(1, 5))):
            for size in range(100):
                due = ["ok", format_order(function(size))] if size in sizes else ["error InvalidSize", "x:"]
                self.assert_answers([f"body {word} {size}", "ask order"], due)
            for part in ("00", "01", "04", "007", "100", "1000", "-1", "+1", "x", "1,", "1.", "a1", "1a", ".",
                         "9" * 60):
                self.assert_one(f"body {word} {part}", "error InvalidText")
            for text in (f"body {word}", f"body {word} ", f"body  {word} 3", f"body {word}  3", f"body {word} 3 ",
                         f" body {word} 3", f"body {word} 3 3", f"body 3 {word}", f"Body {word} 3", f"body {word} 3 x"):
                self.assert_one(text, "error InvalidText")
        for word in ("cone", "Cube", "polygons", "cubes", "turned", "size", ".", "3", "a,b", "cube,", "-"):
            self.assert_one(f"body {word} 3", "error InvalidQuestion")
            self.assert_one(f"body {word} 99", "error InvalidQuestion")
            for text in (f"body {word} 03", f"body {word}", f"body {word} 3 3", f"body {word} x", f"body {word} "):
                self.assert_one(text, "error InvalidText")

    def test_questions(self):
        for question in ("size", "height", "even", "verdict", "order", "letters", "sum", "few"):
            for start in (diamond(), polygon(5), cube(2)):
                self.assert_answers([f"ask {question}"], [Engine(start).ask(question)], start)
        for question, label in (("letters", "TooLow"), ("sum", "TooLow"), ("few", "TooLow"), ("Size",
                                                                                              "InvalidQuestion"),
                                ("turned", "InvalidQuestion"), ("undo", "InvalidQuestion"), (".", "InvalidQuestion"),
                                ("size,", "InvalidQuestion"), ("evens", "InvalidQuestion")):
            self.assert_one(f"ask {question}", f"error {label}")
        self.assert_one("ask sum", "error NotReadable", crooked())
        self.assert_answers(["ask verdict", "ask even"], ["uneven bot j 2 1", "no"], crooked())
        for text in ("ask", "ask ", "ask  size", "ask size ", " ask size", "ask size height", "Ask size", "ask size x ",
                     "ask  ", "asksize", "ask turned x"):
            self.assert_one(text, "error InvalidText")

    def test_undo_and_redo(self):
        self.assert_answers(["redo", "undo", "body cube 1", "redo", "undo", "redo", "ask size", "undo", "make turned",
                             "redo"],
                            ["error NoStep", "error NoStep", "ok", "error NoStep", "ok", "ok", "4", "ok", "ok",
                             "error NoStep"])
        for text in ("undo ", " undo", "undo undo", "Undo", "undo 1", "redo ", " redo", "redo 1", "redo redo",
                     "undo,redo"):
            self.assert_one(text, "error InvalidText")

    def test_errors_and_questions_keep_undone_steps(self):
        self.assert_answers(["body cube 1", "undo", "drop q", "nothing", "ask size", "ask none", "make prism",
                             "cross .", "redo", "ask size"],
                            ["ok", "ok", "error UnknownName", "error InvalidText", "1", "error InvalidQuestion",
                             "error TooLow", "error BadBorder", "ok", "4"])

    def test_other_lines(self):
        for text in ("x", "x:", "size", "turned", "polygon 4", "add", "add x", "add x .", "drop", "drop x y", "cover x",
                     "rename x", "uncover", "#", "-", ".", "do drop x", "add y  x .", "add y x,, .", "add y x, .",
                     "add y ,x .", "add y x . ", " add y x .", "drop X", "drop x,y", "cover x y z", "replace_by x"):
            self.assert_one(text, "error InvalidText")

    def test_the_answer_to_a_question_is_that_of_the_current_order(self):
        # The same question before and behind a step, an undone one and a redone one, and for equal orders.
        lines = ["ask order", "make turned", "ask order", "undo", "ask order", "redo", "ask order", "make turned",
                 "ask order", "rename w q", "ask order", "rename q w", "ask order"]
        first, second = format_order(diamond()), format_order(turned(diamond()))
        renamed = first.replace("w:", "q:")
        self.assert_answers(lines, [first, "ok", second, "ok", first, "ok", second, "ok", first, "ok", renamed, "ok",
                                    first],
                            diamond())
        self.assert_answers(["ask sum", "body cube 1", "ask sum", "undo", "ask sum"],
                            ["error TooLow", "ok", "c", "ok", "error TooLow"])

    def test_equal_calls(self):
        text = "body cube 2\nask letters\nmake pyramid\nask few\nbad\nundo\nask sum"
        self.assertEqual(run(text), run(text))
        self.assertEqual(run(text, start=two()), run(text))


class LongScripts(unittest.TestCase):
    """Scripts of 20000 characters."""

    def lines(self, *lines):
        return "\n".join(lines * (20000 // sum(len(given) + 1 for given in lines)))

    def test_lines(self):
        for lines, answers, start in (
            (("undo",), ("error NoStep",), None), (("ask size",), ("1",), None), (("q",), ("error InvalidText",), None),
            (("ask sum",), ("error NotReadable",), widest()), (("ask few",), ("error TooLow",), one()),
            (("body polygon 19", "ask verdict"), ("ok", "even cc + 17d"), None),
            (("make turned", "ask even"), ("ok", "no"), widest()), (("cross n", "undo"), ("ok", "ok"), wide(40)),
            (("body simplex 5", "ask height"), ("ok", "5"), None), (("undo", "redo"), ("error NoStep",) * 2, one()),
        ):
            found = run(self.lines(*lines), start=start)
            self.assertEqual(found, answers * (len(found) // len(answers)))
            self.assertGreater(len(found), 1000)

    def test_an_empty_line_after_another(self):
        self.assertEqual(run("\n" * 20000), ())
        self.assertEqual(run(" \n" * 10000), ("error InvalidText",) * 10000)
        self.assertEqual(run(" " * 20000), ("error InvalidText",))
        self.assertEqual(run("a" * 20000), ("error InvalidText",))
        self.assertEqual(run("ask " + "a" * 19996), ("error InvalidQuestion",))

    def test_lists_of_many_names(self):
        self.assertEqual(run("cross x" + ",x" * 999), ("error BadBorder",))
        self.assertEqual(run("add y x" + ",x" * 999 + " ."), ("error DuplicateCover",))
        self.assertEqual(run("cross w" + ",w" * 999, start=diamond()), ("ok",))


if __name__ == "__main__":
    unittest.main()

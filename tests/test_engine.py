"""The module evenodds.engine: points [72] to [74]."""

import random
import unittest

from evenodds import errors
from evenodds.absum import ab_sum
from evenodds.cdread import cd_sum, is_readable
from evenodds.counts import alphas
from evenodds.crossing import crossing
from evenodds.edits import apply_edit, apply_edits
from evenodds.engine import Engine
from evenodds.evencheck import is_even, uneven_stretch
from evenodds.faces import polygon
from evenodds.flagsback import few_numbers
from evenodds.orders import Order
from evenodds.ordertext import format_order
from evenodds.products import prism, pyramid, turned
from evenodds.words import format_sum
from samples import (
    WRONG_FORMS,
    Asks,
    crooked,
    diamond,
    full,
    line,
    one,
    random_orders,
    skew,
    triangle,
    two,
    wide,
    widest,
)
from told_samples import even_orders

QUESTIONS = ("size", "height", "even", "verdict", "letters", "sum", "few", "order")
OTHER_TEXTS = ("", " ", "Size", "size ", " size", "size\n", "\n", "evens", "turned", "undo", "steps", "size height",
               "s", "ask size", "few\nsum", "letter", "ab", "mirror", "even yes", "order\n", "a" * 20000)


def state(engine):
    """All that an engine tells."""
    told = [engine.order, engine.steps, engine.undone, list(engine), engine.is_even()]
    return told + [engine.ask(question) for question in ("size", "height", "even", "verdict", "order")]


def used_engine():
    """An engine with two steps and one undone step."""
    engine = Engine(diamond())
    engine.make("pyramid")
    engine.make("turned")
    engine.do(("rename", "b0", "q"))
    engine.undo()
    return engine


class Steps(Asks, unittest.TestCase):
    """Points [72] and [73]."""

    def test_a_new_engine(self):
        for engine in (Engine(diamond()), Engine(order=diamond())):
            self.assertEqual((engine.order, engine.steps, engine.undone), (diamond(), 0, 0))
            self.assertEqual(list(engine), [diamond()])
            self.assertIs(engine.steps.__class__, int)
            self.assertIs(engine.undone.__class__, int)

    def test_do(self):
        engine = Engine(diamond())
        for steps, edit in enumerate((("drop", "x"), ["rename", "y", "q"], ("add", "v", ["w"], ["z"])), start=1):
            due = apply_edit(engine.order, edit)
            self.assertEqual(engine.do(edit), due)
            self.assertEqual((engine.order, engine.steps, engine.undone), (due, steps, 0))
        self.assertEqual(engine.do(edit=("drop", "v")).names, ("w", "q", "z"))

    def test_make(self):
        for word, function in (("turned", turned), ("pyramid", pyramid), ("prism", prism)):
            engine = Engine(crooked())
            self.assertEqual(engine.make(word), function(crooked()))
            self.assertEqual((engine.order, engine.steps), (function(crooked()), 1))
            self.assertEqual(engine.make(word="turned"), turned(function(crooked())))

    def test_cross(self):
        engine = Engine(diamond())
        self.assertEqual(engine.cross(["x", "w"]), crossing(diamond(), ["w", "x"]))
        self.assertEqual((engine.order, engine.steps), (crossing(diamond(), ["w", "x"]), 1))
        self.assertEqual(engine.cross(closed=("s0-3",)).size, 4)

    def test_replace_by(self):
        engine = Engine(diamond())
        self.assertEqual(engine.replace_by(crooked()), crooked())
        self.assertEqual(engine.replace_by(other=one()), one())
        self.assertEqual((engine.order, engine.steps, list(engine)), (one(), 2, [diamond(), crooked(), one()]))

    def test_steps_that_change_nothing_count(self):
        engine = Engine(diamond())
        for steps, step in enumerate((lambda: engine.do(("rename", "x", "x")), lambda: engine.replace_by(diamond()),
                                      lambda: engine.replace_by(engine.order),
                                      lambda: engine.do_all([("rename", "w", "w")])), start=1):
            self.assertEqual(step(), diamond())
            self.assertEqual((engine.steps, engine.undone), (steps, 0))
        self.assertEqual(list(engine), [diamond()] * 5)

    def assert_refused(self, error, values, engine, step, *given):
        told = state(engine)
        self.assert_error(error, values, step, *given)
        self.assertEqual(state(engine), told)

    def test_edits_that_are_refused(self):
        engine = used_engine()
        names = engine.order.names
        for edit in WRONG_FORMS:
            with self.assertRaises(errors.InvalidEdit):
                engine.do(edit)
        self.assertEqual((engine.steps, engine.undone), (2, 1))
        for edit, error, values in (
            (("drop", "q"), errors.UnknownName, ("q",)), (("rename", names[0], "B"), errors.InvalidName, ("B",)),
            (("rename", names[0], names[1]), errors.DuplicateName, (names[1],)),
            (("drop", names[0]), errors.NoEnd, ("least",)), ((), errors.InvalidEdit, ((),)),
            (("uncover", "b3", "t3"), errors.MissingCover, ("b3", "t3")),
            (("cover", "t3", "b3"), errors.DuplicateCover, ("t3", "b3")),
        ):
            self.assert_refused(error, values, engine, engine.do, edit)
            self.assert_refused(error, values, engine, engine.do_all, [edit])
            self.assert_refused(error, values, engine, engine.do_all, [("rename", "b2", "b2"), edit])

    def test_other_steps_that_are_refused(self):
        engine = used_engine()
        for word in ("", "Turned", "turned ", " turned", "turned\n", "pyramid prism", "cube", "size", "undo", "\n"):
            self.assert_refused(errors.InvalidQuestion, (word,), engine, engine.make, word)
        self.assert_refused(errors.UnknownName, ("x",), engine, engine.cross, ["x"])
        self.assert_refused(errors.BadBorder, ("empty",), engine, engine.cross, [])
        self.assert_refused(errors.NotClosed, ("b0", engine.order.least), engine, engine.cross, ["b0"])
        engine.replace_by(wide(40))
        engine.undo()
        engine.redo()
        self.assert_refused(errors.TooMany, ("things", 40), engine, engine.make, "pyramid")
        engine.replace_by(line(10))
        self.assert_refused(errors.TooHigh, (10,), engine, engine.make, "prism")
        engine.replace_by(one())
        self.assert_refused(errors.TooLow, (0,), engine, engine.make, "prism")
        # A word that is none goes before all that the order could raise.
        self.assert_refused(errors.InvalidQuestion, ("prisms",), engine, engine.make, "prisms")

    def test_do_all(self):
        edits = [("drop", "x"), ["rename", "y", "q"], ("add", "v", ["w"], ["z"])]
        engine = used_engine()
        engine.replace_by(diamond())
        self.assertEqual(engine.do_all(edits), apply_edits(diamond(), edits))
        self.assertEqual((engine.steps, engine.undone), (6, 0))
        due = [apply_edits(diamond(), edits[:many]) for many in range(4)]
        self.assertEqual(list(engine)[3:], due)
        for many in (2, 1, 0):
            self.assertEqual(engine.undo(), due[many])
        self.assertEqual(engine.do_all(edits=tuple(edits[:1])), due[1])
        self.assertEqual((engine.steps, engine.undone), (4, 0))

    def test_do_all_with_an_error_in_the_middle(self):
        engine = Engine(diamond())
        engine.make("turned")
        engine.undo()
        for edits, error, values in (
            ([("drop", "x"), ("drop", "x"), ("drop", "y")], errors.UnknownName, ("x",)),
            ([("drop", "x"), ("rename", "y", "q"), ("drop", "q")], errors.NoEnd, ("least",)),
            ([("drop", "y"), ()], errors.InvalidEdit, ((),)),
            ([("rename", "x", "v"), ("rename", "y", "v"), ("rename", "z", "B")], errors.DuplicateName, ("v",)),
            ([["drop"], ("drop", "q")], errors.InvalidEdit, (("drop",),)),
        ):
            self.assert_refused(error, values, engine, engine.do_all, edits)
        self.assertEqual(engine.redo(), turned(diamond()))

    def test_do_all_of_the_empty_list(self):
        engine = used_engine()
        told = state(engine)
        for edits in ([], ()):
            self.assertEqual(engine.do_all(edits), engine.order)
            self.assertEqual(state(engine), told)
        self.assertEqual(engine.undone, 1)
        self.assertIn("q", engine.redo())

    def test_undo_and_redo_to_either_end(self):
        engine = Engine(diamond())
        due = [diamond()]
        for step in (lambda: engine.do(("drop", "x")), lambda: engine.make("prism"), lambda: engine.cross(["n"]),
                     lambda: engine.replace_by(crooked())):
            due.append(step())
        for at in (3, 2, 1, 0):
            self.assertEqual(engine.undo(), due[at])
            self.assertEqual((engine.order, engine.steps, engine.undone), (due[at], at, 4 - at))
            self.assertEqual(list(engine), due[:at + 1])
        self.assert_refused(errors.NoStep, ("undo",), engine, engine.undo)
        for at in (1, 2, 3, 4):
            self.assertEqual(engine.redo(), due[at])
            self.assertEqual((engine.order, engine.steps, engine.undone), (due[at], at, 4 - at))
            self.assertEqual(list(engine), due[:at + 1])
        self.assert_refused(errors.NoStep, ("redo",), engine, engine.redo)

    def test_a_new_engine_has_no_steps(self):
        engine = Engine(one())
        self.assert_refused(errors.NoStep, ("undo",), engine, engine.undo)
        self.assert_refused(errors.NoStep, ("redo",), engine, engine.redo)

    def test_a_step_forgets_undone_steps(self):
        for step in (lambda engine: engine.do(("drop", "x")), lambda engine: engine.do_all([("drop", "x")]),
                     lambda engine: engine.make("turned"), lambda engine: engine.cross(["w"]),
                     lambda engine: engine.replace_by(diamond())):
            engine = Engine(diamond())
            engine.make("pyramid")
            engine.make("pyramid")
            engine.undo()
            engine.undo()
            self.assertEqual(engine.undone, 2)
            found = step(engine)
            self.assertEqual((engine.steps, engine.undone, engine.order), (1, 0, found))
            self.assert_refused(errors.NoStep, ("redo",), engine, engine.redo)
            self.assertEqual(engine.undo(), diamond())
            self.assertEqual((engine.steps, engine.undone), (0, 1))

    def test_a_redone_step_can_be_undone_again(self):
        engine = used_engine()
        for _ in range(5):
            found = engine.redo()
            self.assertEqual((engine.steps, engine.undone), (3, 0))
            self.assertIn("q", found)
            self.assertNotIn("q", engine.undo())
            self.assertEqual((engine.steps, engine.undone), (2, 1))

    def test_iteration(self):
        engine = used_engine()
        self.assertEqual(list(engine), [diamond(), pyramid(diamond()), turned(pyramid(diamond()))])
        self.assertEqual(len(tuple(engine)), engine.steps + 1)
        self.assertEqual([order.size for order in engine], [4, 8, 8])

    def test_the_properties_are_read_only(self):
        for name in ("order", "steps", "undone"):
            found = vars(Engine)[name]
            self.assertIsInstance(found, property)
            self.assertIsNone(found.fset)

    def test_engines_share_nothing(self):
        order = diamond()
        first, second = Engine(order), Engine(order)
        first.do(("drop", "x"))
        self.assertEqual((second.order, second.steps, first.steps), (diamond(), 0, 1))
        second.replace_by(first.order)
        first.undo()
        self.assertEqual((second.order.size, first.order.size), (3, 4))

    def test_lists_that_are_changed_behind_the_call(self):
        engine = Engine(diamond())
        edit, edits, closed = ["add", "v", ["w"], ["z"]], [["rename", "v", "u"], ["drop", "u"]], ["w"]
        engine.do(edit)
        engine.do_all(edits)
        engine.cross(closed)
        told = [state(engine), [order.names for order in engine]]
        for given in (edit[2], edit[3], edit, edits[0], edits[1], edits, closed):
            given.clear()
        self.assertEqual([state(engine), [order.names for order in engine]], told)
        engine.undo()
        engine.redo()
        self.assertEqual([state(engine), [order.names for order in engine]], told)

    def test_no_argument_is_modified(self):
        engine = Engine(diamond())
        edit, edits, closed = ["add", "v", ["w"], ["z"]], [["rename", "v", "u"], ["drop", "u"]], ["w", "w"]
        engine.do(edit)
        engine.do_all(edits)
        engine.cross(closed)
        self.assertEqual(edit, ["add", "v", ["w"], ["z"]])
        self.assertEqual((edits, closed), ([["rename", "v", "u"], ["drop", "u"]], ["w", "w"]))

    def test_a_thousand_steps(self):
        engine = Engine(crooked())
        for at in range(1000):
            engine.make("turned")
            self.assertEqual(engine.steps, at + 1)
        self.assertEqual(engine.order, turned(turned(crooked())))
        self.assertEqual(len(list(engine)), 1001)
        for at in range(1000):
            engine.undo()
        self.assertEqual((engine.order, engine.steps, engine.undone), (crooked(), 0, 1000))
        for at in range(1000):
            engine.redo()
        self.assertEqual((engine.steps, engine.undone), (1000, 0))
        self.assertEqual(engine.do_all([("rename", "a", "a")] * 1000), engine.order)
        self.assertEqual(engine.steps, 2000)


class Questions(Asks, unittest.TestCase):
    """Point [74]."""

    def orders(self):
        found = even_orders() + random_orders(random.Random(291), 30)
        return found + [one(), crooked(), skew(), wide(40), widest(), line(10), polygon(19)]

    def test_small_orders(self):
        for order, question, due in (
            (one(), "size", "1"), (one(), "height", "0"), (one(), "even", "yes"), (one(), "verdict", "even"),
            (one(), "order", "x:"), (two(), "verdict", "even 1"), (two(), "letters", "1"), (two(), "sum", "1"),
            (two(), "few", "1"), (two(), "order", "a: b\nb:"), (diamond(), "verdict", "even c"),
            (diamond(), "letters", "a + b"), (diamond(), "few", "1"), (triangle(), "few", "1 3"),
            (triangle(), "verdict", "even cc + d"), (triangle(), "letters", "aa + 2ab + 2ba + bb"),
            (line(3), "verdict", "uneven t0 t2 2 1"), (line(3), "even", "no"), (line(3), "letters", "a"),
            (skew(), "verdict", "uneven bot k 2 3"), (skew(), "sum", "cc + d"), (skew(), "even", "no"),
            (wide(40), "size", "40"), (wide(40), "few", "1"), (line(10), "height", "9"),
            (diamond(), "order", "w: y x\ny: z\nx: z\nz:"),
        ):
            engine = Engine(order)
            self.assertEqual(engine.ask(question), due)
            self.assertEqual(engine.ask(question=question), due)

    def test_all_questions(self):
        for order in self.orders():
            engine = Engine(order)
            self.assertEqual(engine.ask("size"), str(order.size))
            self.assertEqual(engine.ask("height"), str(order.height))
            self.assertEqual(engine.ask("even"), "yes" if is_even(order) else "no")
            self.assertIs(engine.is_even(), is_even(order))
            self.assertEqual(engine.ask("order"), format_order(order))
            if not is_even(order):
                self.assertEqual(engine.ask("verdict"), " ".join(["uneven", *map(str, uneven_stretch(order))]))
            elif order.height > 0:
                self.assertEqual(engine.ask("verdict"), "even " + format_sum(cd_sum(order)))
            if order.height > 0:
                self.assertEqual(engine.ask("letters"), format_sum(ab_sum(order)))
                self.assertEqual(engine.ask("few"), " ".join(map(str, few_numbers(alphas(order)))))
                if is_readable(ab_sum(order)):
                    self.assertEqual(engine.ask("sum"), format_sum(cd_sum(order)))

    def test_an_order_of_one_thing(self):
        engine = Engine(one())
        for question in ("letters", "sum", "few"):
            self.assert_error(errors.TooLow, (0,), engine.ask, question)
        self.assertIs(engine.is_even(), True)

    def test_sums_that_are_not_readable(self):
        for order, word, number in ((line(3), "b", -1), (wide(40), "b", 36), (crooked(), "bb", -1)):
            self.assert_error(errors.NotReadable, (word, number), Engine(order).ask, "sum")

    def test_other_texts(self):
        for engine in (Engine(one()), used_engine(), Engine(widest())):
            for text in OTHER_TEXTS:
                self.assert_error(errors.InvalidQuestion, (text,), engine.ask, text)

    def test_nothing_is_changed(self):
        engine = used_engine()
        told = state(engine)
        for question in QUESTIONS * 2:
            engine.ask(question)
            self.assertEqual(state(engine), told)
        for text in OTHER_TEXTS:
            with self.assertRaises(errors.InvalidQuestion):
                engine.ask(text)
        self.assertEqual(state(engine), told)
        self.assertIn("q", engine.redo())

    def test_the_current_order_is_asked(self):
        engine = Engine(diamond())
        self.assertEqual(engine.ask("verdict"), "even c")
        engine.make("prism")
        self.assertEqual(engine.ask("verdict"), "even cc + 2d")
        engine.do(("drop", "f1"))
        self.assertEqual(engine.ask("even"), "no")
        self.assertIs(engine.is_even(), False)
        engine.undo()
        self.assertEqual(engine.ask("verdict"), "even cc + 2d")
        self.assertIs(engine.is_even(), True)
        engine.undo()
        self.assertEqual(engine.ask("verdict"), "even c")
        engine.replace_by(full(2, 2))
        self.assertEqual(engine.ask("sum"), "cc")
        self.assertEqual(Engine(Order(["b", "a"], [("a", "b")])).ask("order"), "a: b\nb:")


if __name__ == "__main__":
    unittest.main()

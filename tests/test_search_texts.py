"""The program and the second telling in plain_texts.py agree on many texts and edits."""

import itertools
import random
import unittest

from evenodds.ordertext import format_edit, format_order, parse_edit, parse_order
from plain_texts import edit_text_answer, order_text, order_text_answer, read_edit_answer
from samples import all_edits, answer, crooked, diamond, line, one, random_lists, random_orders, two

SIGNS = "ab0-:.,B \n"


def changed(source, text, signs):
    """The text with one to three characters changed, left out or put in."""
    for _ in range(source.randint(1, 3)):
        at = source.randint(0, len(text))
        text = text[:at] + source.choice(list(signs) + [""]) + text[at + source.randint(0, 1):]
    return text


class OrderTexts(unittest.TestCase):
    def test_writing(self):
        for order in [one(), two(), diamond(), crooked(), line(10)] + random_orders(random.Random(21), 100):
            self.assertEqual(format_order(order), order_text(order.names, order.covers))

    def test_all_short_texts(self):
        good = 0
        for count in range(6):
            for signs in itertools.product("ab: \n", repeat=count):
                text = "".join(signs)
                due = order_text_answer(text)
                self.assertEqual(answer(parse_order, text), due, text)
                good += due[0] == "order"
        self.assertGreater(good, 2)

    def test_changed_texts(self):
        source = random.Random(22)
        good = bad = 0
        for order in random_orders(source, 60):
            text = format_order(order)
            for _ in range(60):
                told = changed(source, text, SIGNS)
                due = order_text_answer(told)
                self.assertEqual(answer(parse_order, told), due, told)
                good += due[0] == "order"
                bad += due[1] == "InvalidText"
        self.assertGreater(min(good, bad), 100)

    def test_texts_of_lists_that_may_be_no_order(self):
        source = random.Random(23)
        found = set()
        for _ in range(1500):
            names, covers = random_lists(source)
            text = "\n".join(" ".join([f"{name}:"] + [high for low, high in covers if low == name]) for name in names)
            due = order_text_answer(text)
            self.assertEqual(answer(parse_order, text), due, text)
            found.add(due[1] if due[0] == "error" else "order")
        self.assertLessEqual({"order", "InvalidText", "UnknownName", "DuplicateName", "DuplicateCover", "RingFound",
                              "NoEnd", "WrongRank"}, found)


class EditTexts(unittest.TestCase):
    def test_all_edits_of_small_orders(self):
        good = 0
        for order in (one(), two(), diamond()):
            for edit in all_edits(order):
                due = edit_text_answer(edit)
                self.assertEqual(answer(format_edit, edit), due, edit)
                self.assertEqual(answer(format_edit, list(edit)), due, edit)
                if due[0] == "value":
                    good += 1
                    self.assertEqual(parse_edit(due[1]), edit)
        self.assertGreater(good, 500)

    def test_all_short_words(self):
        parts = ["add", "drop", "cover", "uncover", "rename", "turn", "a", "b,c", ".", ",", "a,", "", "B", "a\n"]
        good = 0
        for count in range(5):
            for words in itertools.product(parts, repeat=count):
                text = " ".join(words)
                due = read_edit_answer(text)
                self.assertEqual(answer(parse_edit, text), due, text)
                good += due[0] == "value"
        self.assertGreater(good, 300)

    def test_changed_texts(self):
        source = random.Random(24)
        good = bad = 0
        texts = ("add x a,b .", "add x . a0,b,-", "add x a b,a", "drop ab", "cover a b", "uncover b a", "rename a 0-b")
        for text in texts * 300:
            told = changed(source, text, SIGNS)
            due = read_edit_answer(told)
            self.assertEqual(answer(parse_edit, told), due, told)
            good += due[0] == "value"
            bad += due[0] == "error"
            if due[0] == "value":
                self.assertEqual(format_edit(due[1]), told)
        self.assertGreater(min(good, bad), 200)


if __name__ == "__main__":
    unittest.main()

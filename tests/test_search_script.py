"""The program and the second telling in plain_script.py agree on many scripts."""

import itertools
import random
import unittest

from evenodds.evencheck import is_even
from evenodds.papers import verdict
from evenodds.script import run
from plain_script import script_answers
from samples import crooked, diamond, full, line, one, random_orders, two, wide

LINES = """undo|redo|make turned|make pyramid|make prism|ask size|ask height|ask even|ask verdict|ask letters|ask sum
ask few|ask order|body polygon 4|body polygon 3|body simplex 2|body simplex 3|body simplex 0|body cube 2|body cross 2
body cube 1|body rearrangements 3|body rearrangements 1|body polygon 1|body polygon 20|body cube 99|body cone 3|drop x
body cone 03|body cube 01|add y x .|add y . x|add z x,y .|add z y .|cover x z|uncover x y|rename x y|rename y x|drop y
drop none|drop e0|drop v1|add e none whole|cross x|cross none|cross .|cross none,v0|cross none,v0,v0,v1|cross x,y
cross q|cross w|cross x,|cross ,x|cross x,,y|cross X|undo |redo undo| undo|ask|ask |ask size |ask  size|ask more|make
make size|make cube|make turned turned| |  |rename x X|add y x|add y x . .|ask turned|body cube|body 3|body cube 3 3
Ask size|cross|sum|x: y|body  3|body cube |cover x|uncover none v0|rename none n|cross n|cross b0|make x,y|ask .
body . 3|body , 4|cross n0,b0""".replace("\n", "|").split("|")


class Scripts(unittest.TestCase):
    def assert_answers(self, lines, start):
        text = "\n".join(lines)
        due = script_answers(text, start)
        self.assertEqual(run(text, start=start), due, text)
        return due

    def test_each_line_alone_and_all_pairs(self):
        for start in (None, one(), two(), diamond(), crooked(), full(2, 2), line(4), wide(6)):
            for given in LINES:
                self.assert_answers([given], start)
        for first, second in itertools.product(LINES, repeat=2):
            self.assert_answers([first, second], None)

    def test_random_scripts(self):
        source = random.Random(311)
        answers = set()
        for _ in range(400):
            start = source.choice([None, diamond(), crooked(), *random_orders(source, 1)])
            lines = source.choices(LINES, k=source.randint(1, 15))
            lines = [given for given in lines for _ in range(source.choice((1, 1, 1, 2)))]
            lines = [given if source.random() < 0.9 else "" for given in lines]
            answers |= set(self.assert_answers(lines, start))
        for label in ("NoStep", "InvalidText", "InvalidQuestion", "InvalidSize", "UnknownName", "TooLow", "NotReadable",
                      "NotClosed", "BadBorder", "DuplicateName", "MissingCover", "NoEnd"):
            self.assertIn(f"error {label}", answers)

    def test_scripts_that_make_orders_and_ask(self):
        source = random.Random(312)
        makers = ["make turned", "make pyramid", "make prism", "undo", "redo", "body cube 1", "body polygon 3"]
        questions = ["verdict", "letters", "sum", "few", "order", "size", "height", "even"]
        for _ in range(60):
            lines = []
            for _ in range(4):
                lines += [source.choice(makers)] + [f"ask {word}" for word in source.sample(questions, 3)]
            self.assert_answers(lines, source.choice([None, diamond(), line(3)]))

    def test_the_verdict_of_a_script_is_that_of_the_order(self):
        for order in random_orders(random.Random(313), 30) + [one(), crooked(), full(2, 2, 2)]:
            told, even = run("ask verdict\nask even", start=order)
            self.assertEqual((told.split(" ")[0], even), (verdict(order)[0], "yes" if is_even(order) else "no"))


if __name__ == "__main__":
    unittest.main()

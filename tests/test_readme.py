"""The examples of the README are true."""

import doctest
import os
import unittest

README = os.path.join(os.path.dirname(os.path.dirname(os.path.abspath(__file__))), "README.md")


class Readme(unittest.TestCase):
    def test_examples(self):
        with open(README, encoding="ascii") as source:
            # Without the fences, which would count as the last line of an answer.
            text = source.read().replace("```", "")
        test = doctest.DocTestParser().get_doctest(text, {}, "README.md", README, 0)
        failed, tried = doctest.DocTestRunner().run(test)
        self.assertEqual(failed, 0)
        self.assertGreater(tried, 10)


if __name__ == "__main__":
    unittest.main()

"""The examples of the interface, row by row, and those of README.md."""

import doctest
import os
import re
import unittest

HERE = os.path.dirname(os.path.abspath(__file__))


def text_of(*names):
    with open(os.path.join(HERE, *names), encoding="utf-8") as stream:
        return stream.read()


class Examples(unittest.TestCase):

    def check(self, text, least):
        rows = doctest.DocTestParser().get_doctest(text, {}, "examples", None, 0)
        told = []
        result = doctest.DocTestRunner(verbose=False).run(rows, out=told.append)
        self.assertEqual(result.failed, 0, "".join(told))
        self.assertEqual(result.attempted, text.count(">>> "))
        self.assertGreater(result.attempted, least)

    def test_each_row(self):
        self.check(text_of("examples.txt"), 100)

    def test_how_to_use_it(self):
        self.check("\n".join(re.findall(r"```\n(>>> .*?)```", text_of("..", "README.md"), re.DOTALL)), 10)


if __name__ == "__main__":
    unittest.main()

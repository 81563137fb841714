"""The examples of the interface, row by row."""

import doctest
import os
import unittest


class Examples(unittest.TestCase):

    def test_each_row(self):
        path = os.path.join(os.path.dirname(os.path.abspath(__file__)), "examples.txt")
        with open(path, encoding="utf-8") as stream:
            text = stream.read()
        rows = doctest.DocTestParser().get_doctest(text, {}, "examples", path, 0)
        told = []
        result = doctest.DocTestRunner(verbose=False).run(rows, out=told.append)
        self.assertEqual(result.failed, 0, "".join(told))
        self.assertEqual(result.attempted, text.count(">>> "))
        self.assertGreater(result.attempted, 20)


if __name__ == "__main__":
    unittest.main()

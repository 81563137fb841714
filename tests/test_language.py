"""The look through the package's files (.ci/language.py): names that may not stand, of each kind."""

import os
import subprocess
import sys
import tempfile
import unittest

HERE = os.path.dirname(os.path.abspath(__file__))
SCRIPT = os.path.join(HERE, "..", ".ci", "language.py")
BEGINNINGS = ["_wall", "_pe_", "_dcw_", "_enum_", "_cm_", "_twin_re_", "_lay_", "_law_", "_stub_", "_sre", "_WallAttr"]
WHOLE = ["_cold", "_tuplegetter", "_outside", "_record", "_written_out", "_member_names", "_cold_", "_record2"]
PLACES = [
    "def {0}():\n    return 1\n", "def tell({0}):\n    return 1\n", "{0} = 1\n", "class Box:\n    def {0}(self):\n        pass\n",
    "def tell():\n    {0} = 1\n    return {0}\n", "def tell(box):\n    return box(row={0})\n",
    "def tell():\n    for {0} in [1]:\n        pass\n", "def tell():\n    return [1 for {0} in [1]]\n",
]


def looked_through(text):
    """What is printed of a package with a file of this text, and whether it is let."""
    with tempfile.TemporaryDirectory() as folder:
        package = os.path.join(folder, "neverfewer")
        os.mkdir(package)
        for name, words in (("__init__.py", ""), ("box.py", text)):
            with open(os.path.join(package, name), "w", encoding="utf-8") as stream:
                stream.write(words)
        done = subprocess.run([sys.executable, SCRIPT, package], capture_output=True, text=True, check=False)
    return done.stdout + done.stderr, done.returncode == 0


class Language(unittest.TestCase):

    def test_the_package(self):
        done = subprocess.run([sys.executable, SCRIPT, os.path.join(HERE, "..", "neverfewer")],
                              capture_output=True, text=True, check=False)
        self.assertEqual(done.returncode, 0, done.stdout + done.stderr)

    def test_names_that_may_not_stand(self):
        for at, name in enumerate([word + "back" for word in BEGINNINGS] + WHOLE):
            text = PLACES[at % len(PLACES)].format(name)
            printed, is_let = looked_through(text)
            self.assertIs(is_let, False, text)
            self.assertIn("box.py:", printed)
            self.assertIn("L12", printed)

    def test_each_place_of_a_name(self):
        for text in PLACES:
            printed, is_let = looked_through(text.format("_lay_back"))
            self.assertEqual([is_let, "L12" in printed], [False, True], text)
            printed, is_let = looked_through(text.format("_put_back"))
            self.assertEqual([is_let, "L12" in printed], [True, False], printed)

    def test_lists_of_module_level(self):
        table = "ROWS = {{1: 2}}\n\n\ndef tell(k):\n    {0}\n"
        for row in ("return ROWS", "return k(ROWS)", "k = ROWS", "ROWS[k] = 1", "ROWS.update(k)", "return [ROWS]", "return (k, ROWS)"):
            printed, is_let = looked_through(table.format(row))
            self.assertEqual([is_let, "L15" in printed or "L25" in printed], [False, True], row)
        for row in ("return ROWS[k]", "return ROWS.get(k)", "return k in ROWS", "return dict(ROWS)", "return [one for one in ROWS]",
                    "return len(ROWS)", "return sorted(ROWS)"):
            printed, is_let = looked_through(table.format(row))
            self.assertEqual([is_let, "L15" in printed], [True, False], printed)


if __name__ == "__main__":
    unittest.main()

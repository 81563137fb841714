"""Texts of drawings, and how they are read: [9b1], [9b2]."""

import unittest
from itertools import product
from random import Random

import cord_model
import desk_model
import model
from neverfewer.drawings import Drawing
from neverfewer.texts import parse_drawing, print_drawing
from neverfewer.webs import Web
from wrong import KINDS, check_kept, check_raised, check_wrong, plain
from test_drawings import NO_DRAWINGS, THREE, made, told

DRAWINGS = cord_model.drawings_up_to(3) + cord_model.some_drawings([4, 5], 5)
DRAWINGS += [(turn, cord_model.some_marks(turn, 2)) for turn in (
    model.ring(14), model.star(14), model.bunch(14), model.grown(14, 2), model.grown(11, 5), model.about(model.star(12)))]


class Print(unittest.TestCase):

    def test_all_of_them(self):
        for drawing in DRAWINGS:
            text = print_drawing(made(drawing))
            self.assertEqual([text, type(text)], [desk_model.text_of(drawing), str])
            self.assertEqual(print_drawing(drawing=made(drawing)), text)

    def test_read_back(self):
        for drawing in DRAWINGS:
            back = parse_drawing(print_drawing(made(drawing)))
            self.assertIs(type(back), Drawing)
            self.assertEqual(told(back), drawing)

    def test_examples(self):
        self.assertEqual(print_drawing(Drawing(Web((2, 3, 0, 1)), (1, -1))), "0 2/1 3:+-")
        self.assertEqual(print_drawing(Drawing(Web(()), ())), ":")
        self.assertEqual(print_drawing(Drawing(Web((0, 1)), (-1,))), "0/1:-")
        self.assertEqual(print_drawing(Drawing(Web((1, 0)), (1,))), "0 1:+")

    def test_wrong_values(self):
        check_wrong(self, print_drawing, {"drawing": made((THREE, (1, 1, -1)))}, {"drawing": plain(NO_DRAWINGS, "InvalidDrawing")})


class Parse(unittest.TestCase):

    def check(self, text):
        wanted = desk_model.read(text)
        if isinstance(wanted, int):
            check_raised(self, ("BadText", {"position": wanted}), parse_drawing, text)
        else:
            self.assertEqual(told(parse_drawing(text)), wanted, text)
        return type(wanted)

    def bad(self, text, position):
        self.assertEqual(desk_model.read(text), position, text)
        check_raised(self, ("BadText", {"position": position}), parse_drawing, text)
        check_raised(self, ("BadText", {"position": position}), parse_drawing, text=text)

    def test_places_in_any_sequence(self):
        luck = Random(3)
        for turn, marks in DRAWINGS:
            if turn:
                rows = [list(row) for row in model.places(turn)]
                luck.shuffle(rows)
                rows = [row[at:] + row[:at] for row in rows for at in [luck.randrange(len(row))]]
                text = "/".join(" ".join(map(str, row)) for row in rows) + ":" + "".join("-?+"[mark + 1] for mark in marks)
                self.assertEqual(told(parse_drawing(text)), (turn, marks))
                self.assertEqual(told(parse_drawing(text=text)), (turn, marks))

    def test_all_short_strings(self):
        found = {int: 0, tuple: 0}
        for many in range(5):
            for signs in product("012/ :+", repeat=many):
                found[self.check("".join(signs))] += 1
        for many in range(5, 7):
            for signs in product("01/ :+", repeat=many):
                found[self.check("".join(signs))] += 1
        self.assertEqual(found[tuple], 5)

    def test_one_sign_changed(self):
        luck, found = Random(4), {int: 0, tuple: 0}
        for drawing in DRAWINGS[::3]:
            text = desk_model.text_of(drawing)
            for _ in range(30):
                at = luck.randrange(len(text) + 1)
                for new in (text[:at] + luck.choice("0123456789 /:+-x") + text[at + luck.randrange(2):], text[:at] + text[at + 1:]):
                    found[self.check(new)] += 1
        self.assertGreater(min(found.values()), 20)

    def test_the_shape(self):
        for text, at in [
                ("", 0), ("0", 1), ("0 ", 2), ("0 2/1 3", 7), ("0 2/1 3/", 8), (" 0 1:+", 0), ("/0 1:+", 0), ("0  1:+", 2),
                ("0 /1:+", 2), ("0//1:+", 2), ("0/ 1:+", 2), ("00 1:+", 1), ("01:+", 1), ("1 00:+", 3), ("123", 2),
                ("0 1 :+", 4), ("0 1/:+", 4), ("::", 1), (":+", 1), (":0", 1), (": ", 1), ("0 1:+ ", 5), ("0 1:+:", 5), ("0 1:1", 4),
                ("0 1:+x", 5), ("x", 0), ("0x", 1), ("0 1+", 3), ("+", 0), ("-0 1:+", 0), ("0 -1:+", 2), ("0,1:+", 1), ("0 1\n:+", 3),
                ("0 1:+\n", 5), ("\n", 0), ("0 100", 4)]:
            self.bad(text, at)

    def test_numerals(self):
        # The first numeral that is too large, or has stood ahead, whatever stands behind it.
        for text, at in [
                ("0 2:+", 2), ("2 0:+", 0), ("0 0:+", 2), ("1 1/5 5:+-", 2), ("0 2/1 2:++", 6), ("0 99/1 99:", 2), ("10 1:+", 0),
                ("0 1 2 4:++", 6), ("0 0:+++", 2), ("0 3/3 1:", 4), ("4 0/1 2:++", 0), ("0 1 2 3 4 5 6 7 8 10 10:", 21),
                ("0 1 2 3 4 5 6 7 8 11 10:", 18)]:
            self.bad(text, at)

    def test_odd_or_too_many(self):
        self.bad("0:", 1)
        self.bad("0:+", 1)
        self.bad("0 1 2:++", 5)
        self.bad("0 1/2:+++++", 5)
        thirty = " ".join(map(str, range(30)))
        self.bad(thirty + ":" + 15 * "+", len(thirty))
        self.bad(thirty + ":", len(thirty))
        hundred = " ".join(map(str, range(100)))
        self.bad(hundred + ":", len(hundred))
        self.bad(hundred + " 5:", len(hundred) + 1)
        for many in (28, 26):
            text = " ".join(map(str, range(many)))
            self.assertEqual(parse_drawing(text + ":" + many // 2 * "-").many, many // 2)

    def test_signs(self):
        self.bad("0 1:++", 5)
        self.bad("0 1:+-+-", 5)
        self.bad("0 1:", 4)
        self.bad("0 2/1 3:+", 9)
        # The signs are asked ahead of the places.
        self.bad("0 2 1 3:+", 9)
        self.bad("0 2 1 3:+++", 10)

    def test_no_web(self):
        self.bad("0 2 1 3:++", 7)
        self.bad("0 1/2 3:++", 7)
        self.bad("0 1/2 3/4 5:+++", 11)
        self.bad("0 4 2 1 3 5:+++", 11)

    def test_no_strings(self):
        for value in KINDS + [[":"], (":",), b":", ["0 1:+"]]:
            if not isinstance(value, str):
                check_raised(self, ("BadText", {"position": 0}), parse_drawing, value)
        check_kept(self, parse_drawing, "0 2/1 3:+-")


if __name__ == "__main__":
    unittest.main()

"""States and their circles, the bracket, that of a chart, moves, the normed bracket: [6a2] to [6a6]."""

import unittest
from itertools import product

import cord_model
import model
from neverfewer.blocks import block_web, blocks, joined
from neverfewer.cords import cords
from neverfewer.drawings import Drawing, from_behind, negated, other_colour, plain_drawing
from neverfewer.flypes import flyped, flypes
from neverfewer.laurent import Laurent
from neverfewer.moves import moved
from neverfewer.parts import parts
from neverfewer.states import bracket, circles, normed
from neverfewer.turns import turned
from neverfewer.webs import Web, about, is_chart
from wrong import KINDS, check_raised, check_wrong, plain
from test_cords import wrong_directions
from test_drawings import NO_DRAWINGS, THREE, made
from test_turns import trees_many

WEBS = model.webs_up_to(3) + [model.scrambled(turn, seed) for seed, turn in enumerate(model.names(4))]
DRAWINGS = cord_model.drawings_up_to(2) + cord_model.some_drawings([3, 4]) + cord_model.some_drawings([5], 20)
DRAWINGS += [(turn, cord_model.some_marks(turn, 7)) for turn in (
    model.grown(6, 3), model.ring(7), model.about(model.star(6)), model.grown(7, 1), model.grown(8, 5))]
CHARTS = [turn for many in range(2, 6) for turn in model.names(many) if model.is_chart(turn)]
CHARTS += model.block_names(6) + model.block_names(7)[::5] + [model.grown(many, many) for many in (8, 9, 10)]
ONE, UP, DOWN = Laurent(0, [1]), Laurent(3, [-1]), Laurent(-3, [-1])


def wrong_ties(many):
    """Values that are no TIES of a web of so many ties."""
    return [value for value in KINDS if value != () and not (many and value == (0,))] + [
        [], [0], (many,), (-1,), (0, 0), (1, 0), (True,), (0, True), (False,), ("0",), (None,), ((0,),), {0}, 10 ** 29]


class Circles(unittest.TestCase):

    def each(self):
        for turn in WEBS + [model.grown(6, 1), model.ring(6)]:
            for kept in model.subsets(range(len(turn) // 2)):
                yield turn, kept

    def test_all_states(self):
        for turn, kept in self.each():
            many = circles(Web(turn), kept)
            self.assertEqual([many, type(many)], [cord_model.circles(turn, kept), int])
            self.assertEqual(circles(web=Web(turn), kept=kept), many)

    def test_by_pieces_of_places(self):
        for turn, kept in self.each():
            pieces = len(cord_model.pieces(turn, kept))
            self.assertEqual(circles(Web(turn), kept), 2 * pieces + len(kept) - len(model.places(turn)))

    def test_one_tie_more(self):
        for turn, kept in self.each():
            for tie in range(len(turn) // 2):
                if tie not in kept:
                    more = circles(Web(turn), model.with_tie(kept, tie))
                    self.assertEqual(abs(more - circles(Web(turn), kept)), 1)

    def test_turned_about(self):
        for turn, kept in self.each():
            left = tuple(tie for tie in range(len(turn) // 2) if tie not in kept)
            self.assertEqual(circles(about(Web(turn)), left), circles(Web(turn), kept))

    def test_large_webs(self):
        for turn in (model.ring(14), model.bunch(14), model.star(14), model.grown(14, 3)):
            for kept in ((), tuple(range(14)), tuple(range(0, 14, 2)), (3, 13)):
                self.assertEqual(circles(Web(turn), kept), cord_model.circles(turn, kept))

    def test_wrong_values(self):
        check_wrong(self, circles, {"web": Web(THREE), "kept": (0, 2)}, {
            "web": plain([None, 0, THREE, "web", [], True], "InvalidWeb"), "kept": plain(wrong_ties(3), "InvalidTies")})
        for value in wrong_ties(0):
            check_raised(self, ("InvalidTies", {"value": value}), circles, Web(()), value)
        self.assertEqual(circles(Web(()), ()), 1)


class Brackets(unittest.TestCase):

    def test_all_of_them(self):
        for drawing in DRAWINGS:
            told = bracket(made(drawing))
            self.assertIs(type(told), Laurent)
            self.assertEqual(dict(told.terms()), cord_model.bracket(drawing))
            self.assertEqual(bracket(drawing=made(drawing)), told)

    def test_exponents_by_fours(self):
        for drawing in DRAWINGS:
            self.assertEqual(len({exponent % 4 for exponent, number in bracket(made(drawing)).terms()}) > 1, False)

    def test_other_sides(self):
        for seed, drawing in enumerate(DRAWINGS):
            one = made(drawing)
            told = bracket(one)
            self.assertEqual([bracket(from_behind(one)), bracket(other_colour(one))], [told, told])
            self.assertEqual(bracket(negated(one)), told.mirrored())
            turn = model.scrambled(drawing[0], seed + 3)
            row = model.carryings(drawing[0], turn)[0]
            marks = [0] * len(drawing[1])
            for tie, mark in enumerate(drawing[1]):
                marks[row[2 * tie] // 2] = mark
            self.assertEqual(bracket(Drawing(Web(turn), marks)), told)

    def test_the_same_rings(self):
        for turn in model.block_names(6)[::3] + [model.grown(8, 4)]:
            web, marks = Web(turn), cord_model.some_marks(turn, 1)
            told = bracket(Drawing(web, marks))
            for ties in parts(web)[::3]:
                for letter in "abc":
                    self.assertEqual(bracket(Drawing(turned(web, ties, letter), marks)), told)
            for tie, ties in flypes(web)[::3]:
                self.assertEqual(bracket(Drawing(flyped(web, tie, ties), marks)), told)

    def test_the_product_of_blocks(self):
        for drawing in DRAWINGS:
            web, whole = Web(drawing[0]), ONE
            for ties in blocks(web):
                whole = whole * bracket(Drawing(block_web(web, ties), [drawing[1][tie] for tie in ties]))
            self.assertEqual(bracket(made(drawing)), whole)

    def test_joined(self):
        for one in DRAWINGS[:30:3]:
            for other in DRAWINGS[30:90:9]:
                web = joined(Web(one[0]), 0, Web(other[0]), 0)
                both = Drawing(web, one[1] + other[1])
                self.assertEqual(bracket(both), bracket(made(one)) * bracket(made(other)))

    def test_added_and_subtracted_by_turns(self):
        for drawing in DRAWINGS:
            turn, marks = drawing
            total = 0
            for ties in cord_model.trees(turn):
                product_of = 1
                for tie in ties:
                    product_of *= marks[tie]
                total += product_of
            told = bracket(made(drawing))
            by_turns = sum(number * (-1) ** ((exponent - told.least) // 4) for exponent, number in told.terms())
            self.assertIn(total, (by_turns, -by_turns))

    def test_of_a_chart(self):
        for turn in CHARTS:
            web = Web(turn)
            self.assertTrue(is_chart(web))
            many, places, faces = web.many, len(web.places()), len(web.faces())
            told = bracket(plain_drawing(web))
            least, greatest = -many - 2 * (places - 1), many + 2 * (faces - 1)
            self.assertEqual([told.least, told.at(least)], [least, 1 if places % 2 else -1])
            self.assertEqual([told.least + told.span(), told.at(greatest)], [greatest, 1 if faces % 2 else -1])
            self.assertEqual(told.span(), 4 * many)
            first = told.at(least)
            for exponent, number in told.terms():
                steps, left = divmod(exponent - least, 4)
                self.assertEqual([left, number * first * (-1) ** steps > 0], [0, True])
            self.assertEqual(sum(abs(number) for exponent, number in told.terms()), trees_many(turn))

    def test_no_ties_and_one(self):
        self.assertEqual(bracket(plain_drawing(Web(()))), ONE)
        for turn, by in (((1, 0), (UP, DOWN)), ((0, 1), (DOWN, UP))):
            self.assertEqual([bracket(Drawing(Web(turn), [mark])) for mark in (1, -1)], list(by))

    def test_moves(self):
        words = set()
        for seed, drawing in enumerate(DRAWINGS):
            one = made(drawing)
            told = bracket(one)
            for move in cord_model.moves_in_plenty(drawing, seed, 8 if len(drawing[1]) < 6 else 2):
                if cord_model.can_be_done(drawing, move):
                    words.add(move[0])
                    then = bracket(moved(one, move))
                    if move[0] in ("loop", "hang"):
                        self.assertEqual(then, told * (UP if (move[0] == "loop") == (move[2] == 1) else DOWN))
                    elif move[0] in ("unloop", "unhang"):
                        by = UP if (move[0] == "unloop") == (drawing[1][move[1]] == 1) else DOWN
                        self.assertEqual(then * by, told)
                    else:
                        self.assertEqual(then, told)
        self.assertEqual(len(words), len(cord_model.WORDS))

    def test_ten_ties_and_eleven(self):
        ten, eleven = plain_drawing(Web(model.grown(10, 1))), plain_drawing(Web(model.grown(11, 1)))
        self.assertEqual(bracket(ten).span(), 40)
        for drawing in (eleven, plain_drawing(Web(model.ring(14))), plain_drawing(Web(model.star(11)))):
            told = ("TooMany", {"what": "ties", "limit": 10})
            check_raised(self, told, bracket, drawing)
            ways = (0,) * len(cords(drawing.web()))
            check_raised(self, told, normed, drawing, ways)
            check_raised(self, told, normed, drawing=drawing, directions=ways)
            for value in [(0,) * (len(ways) + 1), list(ways), None, (True,) * len(ways)]:
                check_raised(self, ("InvalidDirections", {"value": value}), normed, drawing, value)
        self.assertEqual(normed(ten, (0,) * len(cords(ten.web()))).span(), 40)

    def test_wrong_values(self):
        check_wrong(self, bracket, {"drawing": made((THREE, (1, 1, -1)))}, {"drawing": plain(NO_DRAWINGS, "InvalidDrawing")})


class Normed(unittest.TestCase):

    def each(self):
        for drawing in DRAWINGS:
            for ways in cord_model.all_directions(drawing[0])[:6]:
                yield drawing, ways

    def all_of(self, drawing):
        """The normed brackets by all directions, sorted."""
        return sorted(normed(drawing, ways).terms() for ways in cord_model.all_directions(drawing.web().turn()))

    def test_all_of_them(self):
        for drawing, ways in self.each():
            told = normed(made(drawing), ways)
            self.assertIs(type(told), Laurent)
            self.assertEqual(dict(told.terms()), cord_model.normed(drawing, ways))
            self.assertEqual(normed(drawing=made(drawing), directions=ways), told)

    def test_sums_of_the_numbers(self):
        for drawing, ways in self.each():
            self.assertEqual(sum(normed(made(drawing), ways).numbers()), (-2) ** (len(ways) - 1))

    def test_other_ways_and_negated(self):
        for drawing, ways in self.each():
            told = normed(made(drawing), ways)
            self.assertEqual(normed(made(drawing), tuple(1 - way for way in ways)), told)
            self.assertEqual(normed(negated(made(drawing)), ways), told.mirrored())

    def test_moves(self):
        words = set()
        for seed, drawing in enumerate(DRAWINGS):
            before = self.all_of(made(drawing))
            for move in cord_model.moves_in_plenty(drawing, seed + 50, 5 if len(drawing[1]) < 6 else 1):
                if cord_model.can_be_done(drawing, move):
                    words.add(move[0])
                    self.assertEqual(self.all_of(moved(made(drawing), move)), before, (drawing, move))
        self.assertEqual(len(words), len(cord_model.WORDS))

    def test_flypes(self):
        for turn, mark in product(model.block_names(6)[::3] + [model.grown(8, 4)], (1, -1)):
            web = Web(turn)
            before = self.all_of(Drawing(web, [mark] * web.many))
            for tie, ties in flypes(web)[::4]:
                self.assertEqual(self.all_of(Drawing(flyped(web, tie, ties), [mark] * web.many)), before)

    def test_a_ring_and_its_other_side(self):
        ring = plain_drawing(Web(THREE))
        self.assertEqual(normed(ring, (0,)).terms(), [(-16, -1), (-12, 1), (-4, 1)])
        self.assertFalse(normed(negated(ring), (0,)) == normed(ring, (0,)))

    def test_wrong_values(self):
        for turn in (THREE, (2, 3, 0, 1), model.ring(6)):
            drawing = plain_drawing(Web(turn))
            good = {"drawing": drawing, "directions": (0,) * len(cord_model.cords(turn))}
            check_wrong(self, normed, good, {"drawing": plain(NO_DRAWINGS, "InvalidDrawing"),
                                             "directions": plain(wrong_directions(turn), "InvalidDirections")})
        for way in (0, 1):
            self.assertEqual(normed(plain_drawing(Web(())), (way,)), ONE)


if __name__ == "__main__":
    unittest.main()

"""Moves of drawings, what they make, and what leads back: [5a2], [5a3], [5a4], [5a5]."""

import unittest
from random import Random

import cord_model
import model
from neverfewer.drawings import Drawing, drawings_alike, other_colour, plain_drawing
from neverfewer.moves import is_move, moved, moves_done, small_moves, undoing
from neverfewer.webs import Web
from wrong import KINDS, NO_LISTS, check_bools, check_kept, check_raised, check_wrong, plain
from test_drawings import NO_DRAWINGS, THREE, made, told

MIXED = (THREE, (1, 1, -1))
CIRCLE = ((), ())
SMALL = cord_model.drawings_up_to(2) + cord_model.some_drawings([3, 4]) + [MIXED]
STARTS = SMALL + cord_model.some_drawings([5], 8) + [(model.grown(8, 1), cord_model.some_marks(model.grown(8, 1), 1))]
FULL = [(turn, cord_model.some_marks(turn, 4)) for turn in (
    model.grown(12, 3), model.grown(13, 4), model.grown(14, 5), model.star(13), model.ring(14), model.about(model.star(14)))]


def reached():
    """Drawings to which moves lead from some others, with what their moves are."""
    found = []
    for seed, drawing in enumerate(STARTS):
        found += cord_model.wandered(drawing, seed, 5, 9)[1]
    return found


REACHED = reached()


def arguments(drawing):
    """Values that could be moves of the drawing, among them those that are."""
    turn, marks = drawing
    darts = list(range(-1, len(turn) + 2))
    for word in cord_model.WORDS:
        yield (word,)
        for one in darts:
            yield (word, one)
            for other in darts:
                yield (word, one, other)
        for mark in (1, -1, 0):
            yield (word, 0, mark)
            for one in darts:
                for other in darts:
                    yield (word, one, other, mark)


class IsMove(unittest.TestCase):

    def test_all_arguments(self):
        seen = {}
        for drawing in cord_model.drawings_up_to(1) + SMALL[::7] + [MIXED]:
            for value in arguments(drawing):
                is_one = cord_model.is_move(drawing, value)
                self.assertIs(is_move(made(drawing), value), is_one, (drawing, value))
                seen[value[0], is_one] = True
        self.assertEqual(len(seen), 2 * len(cord_model.WORDS))

    def test_those_of_larger_drawings(self):
        for drawing in REACHED[::3] + FULL:
            one = made(drawing)
            for move in cord_model.moves_in_plenty(drawing, 3):
                self.assertIs(is_move(drawing=one, value=move), True)
                self.assertIs(is_move(one, list(move)), False)
            luck = Random(len(drawing[1]))
            for _ in range(60):
                value = (luck.choice(cord_model.WORDS), *[luck.randrange(-1, 29) for _ in range(luck.randrange(1, 3))])
                if value[0] in cord_model.WORDS[:4]:
                    value += (luck.choice((1, -1)),)
                self.assertIs(is_move(one, value), cord_model.is_move(drawing, value))

    def test_whether_it_can_be_done_or_not(self):
        ring = Drawing(Web((2, 3, 0, 1)), [1, -1])
        self.assertEqual([is_move(ring, ("undouble", 0, 1)), is_move(ring, ("unsplit", 0, 1))], [True, True])
        full = plain_drawing(Web(model.ring(14)))
        self.assertEqual([is_move(full, ("loop", 3, 1)), is_move(full, ("double", 3, 3, -1))], [True, True])

    def test_marks_that_are_alike_or_not(self):
        for turn in ((2, 3, 0, 1), THREE, model.bunch(3)):
            for marks in cord_model.all_marks(turn):
                for value in arguments((turn, marks)):
                    if value[0][:2] == "un" or value[0] in ("star", "triangle"):
                        self.assertIs(is_move(made((turn, marks)), value), cord_model.is_move((turn, marks), value))

    def test_any_value(self):
        for drawing in (MIXED, CIRCLE, ((1, 0), (1,))):
            check_bools(self, lambda value: is_move(made(drawing), value), KINDS + [
                ["loop", 0, 1], ("loop", 0, True), ("loop", False, 1), ("loop", 0, 0), ("loop", 0, 2), ("loop", "0", 1),
                ("loop", 0, "1"), ("loop", None, 1), ("loop", 0), ("loop",), ("loop", 0, 1, 1), ("Loop", 0, 1), ("", 0, 1),
                (b"loop", 0, 1), (None, 0, 1), (0, 0, 1), ("loop", -1, 1), ("loop", 10 ** 29, 1), ("loop", (0,), 1),
                ("hang", 0, False), ("hang", 0, [1]), ("double", 0, 1), ("double", 0, False, 1), ("double", 0, 0, True),
                ("double", [0], 0, 1), ("double", 0, 0, 0, 1), ("split", 0, None, 1), ("split", 0, 0), ("split", True, 0, 1),
                ("unloop", True), ("unloop", False), ("unhang", False), ("unloop", None), ("unloop", 0, 1), ("unloop", -1),
                ("undouble", 0), ("undouble", 1, 0), ("undouble", 0, 0), ("undouble", False, True), ("undouble", 0, True),
                ("unsplit", False, 2), ("unsplit", 2, 0), ("unsplit", 0, 2, 1), ("unsplit", 0, None), ("star", False),
                ("star", True), ("star", 2), ("star", 0, 1), ("star", None), ("triangle", True), ("triangle", "0"),
                ("move", 0, 1), ("move", 0), ("face", 1), ("Star", 0), (None, 0), ("loops", 0, 1), (("loop",), 0, 1), (["loop"], 0, 1), "loop", "star"])

    def test_words_of_three_ties(self):
        star = moved(made(MIXED), ("star", 0))
        check_bools(self, lambda value: is_move(star, value), [
            (word, 1) for word in ("star", "Triangle", "face", "place", "", None, 1, b"triangle", ("triangle",))])
        check_bools(self, lambda value: is_move(made(MIXED), value), [
            (word, 0) for word in ("triangle", "Star", "face", "place", "", None, 0, b"star", ["star"])])
        self.assertEqual([is_move(star, ("triangle", 1)), is_move(made(MIXED), ("star", 0))], [True, True])

    def test_wrong_values(self):
        check_wrong(self, is_move, {"drawing": made(MIXED), "value": None}, {
            "drawing": plain(NO_DRAWINGS, "InvalidDrawing")})
        check_kept(self, is_move, made(MIXED), ("star", 0))


class Moved(unittest.TestCase):

    def each(self):
        for drawing in SMALL:
            for move in cord_model.all_moves(drawing)[::1 if len(drawing[1]) < 3 else 3]:
                yield drawing, move
        for seed, drawing in enumerate(REACHED):
            for move in cord_model.moves_in_plenty(drawing, seed):
                yield drawing, move

    def test_what_they_make(self):
        words = {}
        for drawing, move in self.each():
            slow = cord_model.moved(drawing, move)
            words[move[0], slow is None] = True
            if slow is None:
                check_raised(self, ("Parted", {}), moved, made(drawing), move)
            else:
                one = moved(made(drawing), move)
                self.assertEqual(told(one), slow, (drawing, move))
                self.assertIs(type(one), Drawing)
        self.assertEqual(len(words), len(cord_model.WORDS) + 2)

    def test_larger_drawings(self):
        for drawing in FULL:
            for move in cord_model.all_moves(drawing)[::5] + cord_model.small_ones(drawing):
                slow = cord_model.moved(drawing, move)
                if slow is None:
                    check_raised(self, ("Parted", {}), moved, made(drawing), move)
                elif len(slow[1]) > 14:
                    check_raised(self, ("TooMany", {"what": "ties", "limit": 14}), moved, made(drawing), move)
                else:
                    self.assertEqual(told(moved(drawing=made(drawing), move=move)), slow)

    def test_each_kind_of_the_circle(self):
        circle = made(CIRCLE)
        for mark in (1, -1):
            rows = [("loop", 0, mark), ("hang", 0, mark), ("double", 0, 0, mark), ("split", 0, 0, mark)]
            self.assertEqual([told(moved(circle, move)) for move in rows], [
                ((1, 0), (mark,)), ((0, 1), (mark,)), ((2, 0, 3, 1), (mark, -mark)), ((0, 2, 1, 3), (mark, -mark))])
            for move in rows:
                back = undoing(circle, move)
                self.assertEqual(moved(moved(circle, move), back), circle)
        self.assertEqual(cord_model.all_moves(CIRCLE), [move for mark in (1, -1) for move in [("loop", 0, mark)]] + [
            ("hang", 0, 1), ("hang", 0, -1), ("double", 0, 0, 1), ("double", 0, 0, -1), ("split", 0, 0, 1), ("split", 0, 0, -1)])

    def test_both_corners_the_same(self):
        for drawing in SMALL[::3]:
            turn, marks = drawing
            for corner in range(len(turn)):
                new = len(turn)
                double = moved(made(drawing), ("double", corner, corner, 1)).web().turn()
                self.assertEqual([double[corner], double[new], double[new + 2], double[new + 3], double[new + 1]],
                                 [new, new + 2, new + 3, new + 1, turn[corner]])
                split = moved(made(drawing), ("split", corner, corner, -1)).web()
                self.assertEqual([split.turn()[corner], split.turn()[new], split.place(new + 1), split.place(new + 3)],
                                 [new, turn[corner], (new + 1, new + 2), (new + 3,)])

    def test_one_that_parts(self):
        for turn, move in (((2, 3, 0, 1), ("undouble", 0, 1)), ((2, 3, 0, 1), ("unsplit", 0, 1))):
            drawing = Drawing(Web(turn), [1, -1])
            check_raised(self, ("Parted", {}), moved, drawing, move)
            check_raised(self, ("Parted", {}), undoing, drawing, move)
            check_raised(self, ("InvalidMoves", {"position": 0}), moves_done, drawing, [move])
            self.assertEqual(small_moves(drawing), [])
        both = [drawing for drawing in REACHED for move in cord_model.small_ones(drawing)
                if cord_model.does_part(drawing, move)]
        self.assertGreater(len(both), 5)

    def test_fourteen_ties_and_more(self):
        ring = plain_drawing(Web(model.ring(13)))
        for word in ("loop", "hang"):
            self.assertEqual(moved(ring, (word, 0, 1)).many, 14)
        for word in ("double", "split"):
            told_error = ("TooMany", {"what": "ties", "limit": 14})
            check_raised(self, told_error, moved, ring, (word, 0, 0, 1))
            check_raised(self, told_error, undoing, ring, (word, 0, 0, 1))
            self.assertEqual(moved(plain_drawing(Web(model.ring(12))), (word, 0, 0, 1)).many, 14)
        full = Drawing(Web(model.about(model.star(14))), [1, -1] * 7)
        for move in [("loop", 3, 1), ("hang", 3, 1), ("double", 3, 3, 1), ("split", 3, 3, 1)]:
            self.assertIs(is_move(full, move), True)
            check_raised(self, ("TooMany", {"what": "ties", "limit": 14}), moved, full, move)
            check_raised(self, ("TooMany", {"what": "ties", "limit": 14}), undoing, full, move)
            check_raised(self, ("InvalidMoves", {"position": 0}), moves_done, full, [move])
            check_raised(self, ("BadMove", {}), moved, full, move[:-1] + (0,))
        self.assertTrue(all(move[0][:2] == "un" for move in small_moves(full)))

    def test_in_the_other_colour(self):
        for drawing, move in self.each():
            slow = cord_model.moved(drawing, move)
            other = cord_model.other_move(drawing, move)
            self.assertIs(is_move(other_colour(made(drawing)), other), True)
            if slow is not None and len(slow[1]) < 6:
                one = moved(other_colour(made(drawing)), other)
                self.assertIs(drawings_alike(one, other_colour(moved(made(drawing), move))), True, (drawing, move))

    def test_stars_and_triangles_dart_by_dart(self):
        many = 0
        for drawing in REACHED + FULL:
            for move in cord_model.small_ones(drawing):
                if move[0] in ("star", "triangle"):
                    one = made(drawing)
                    back = undoing(one, move)
                    self.assertEqual(back[0], {"star": "triangle", "triangle": "star"}[move[0]])
                    self.assertEqual(moved(moved(one, move), back), one)
                    many += 1
        self.assertGreater(many, 20)

    def test_wrong_values(self):
        no_moves = [value for value in KINDS] + [
            ["star", 0], ("star", False), ("star", 2), ("loop", 0, 0), ("undouble", 0, 1), ("unloop", 0), ("triangle", 1)]
        for call in (moved, undoing):
            check_wrong(self, call, {"drawing": made(MIXED), "move": ("star", 0)}, {
                "drawing": plain(NO_DRAWINGS, "InvalidDrawing"), "move": [(value, "BadMove", {}) for value in no_moves]})

    def test_nothing_that_is_passed_changes(self):
        for drawing in SMALL[::5]:
            one = made(drawing)
            for move in cord_model.all_moves(drawing)[::3]:
                if cord_model.can_be_done(drawing, move):
                    self.assertEqual(told(moved(one, move)), told(moved(one, move)))
                    undoing(one, move)
                    self.assertEqual(told(one), drawing)


class Undoing(unittest.TestCase):

    def test_each_move_is_led_back(self):
        words = set()
        for seed, drawing in enumerate(SMALL + REACHED + FULL):
            one = made(drawing)
            moves = cord_model.all_moves(drawing)[::2] if seed < 40 else cord_model.moves_in_plenty(drawing, seed, 6)
            for move in moves:
                if cord_model.can_be_done(drawing, move):
                    words.add(move[0])
                    made_so = moved(one, move)
                    back = undoing(drawing=one, move=move)
                    self.assertIs(is_move(made_so, back), True, (drawing, move, back))
                    self.assertIs(drawings_alike(moved(made_so, back), one), True, (drawing, move, back))
        self.assertEqual(len(words), len(cord_model.WORDS))

    def test_pairs_at_one_corner(self):
        # Of a double or split at one corner one tie lies around the other one, whichever has the lesser number.
        many = 0
        for drawing in SMALL[::3] + [CIRCLE]:
            for corner in model.corners(drawing[0])[::2]:
                for word in ("double", "split"):
                    for mark in (1, -1):
                        made_so = cord_model.moved(drawing, (word, corner, corner, mark))
                        for seed in range(3):
                            turn = model.scrambled(made_so[0], seed)
                            row, = [row for row in model.carryings(made_so[0], turn)][:1]
                            marks = [0] * len(made_so[1])
                            for tie, one in enumerate(made_so[1]):
                                marks[row[2 * tie] // 2] = one
                            other = (turn, tuple(marks))
                            for move in cord_model.small_ones(other):
                                if cord_model.can_be_done(other, move):
                                    back = undoing(made(other), move)
                                    led = moved(moved(made(other), move), back)
                                    self.assertIs(drawings_alike(led, made(other)), True, (other, move))
                                    many += 1
        self.assertGreater(many, 100)

    def test_errors_as_of_moved(self):
        check_raised(self, ("BadMove", {}), undoing, made(CIRCLE), ("unloop", 0))
        check_raised(self, ("InvalidDrawing", {"value": None}), undoing, None, ("unloop", 0))


class Done(unittest.TestCase):

    def test_rows_of_moves(self):
        for seed, drawing in enumerate(STARTS):
            moves, drawings = cord_model.wandered(drawing, seed + 40, 6)
            one = moves_done(made(drawing), moves)
            self.assertEqual([told(step) for step in one], drawings)
            self.assertEqual([type(one), len(one)], [list, len(moves) + 1])
            self.assertEqual(moves_done(drawing=made(drawing), moves=tuple(moves)), one)
            for value in ([], ()):
                self.assertEqual(moves_done(made(drawing), value), [made(drawing)])

    def test_the_first_that_cannot_be_done(self):
        for seed, drawing in enumerate(STARTS[::4]):
            moves, drawings = cord_model.wandered(drawing, seed, 5)
            for at in range(len(moves) + 1):
                for value in (None, ["loop", 0, 1], ("loop", 0, True), ("unloop", 14), ("loop", len(drawings[at][0]) + 1, 1)):
                    self.assertIs(cord_model.is_move(drawings[at], value), False)
                    row = moves[:at] + [value] + [None]
                    check_raised(self, ("InvalidMoves", {"position": at}), moves_done, made(drawing), row)
                    check_raised(self, ("InvalidMoves", {"position": at}), moves_done, made(drawing), tuple(row))

    def test_each_is_asked_of_the_drawing_as_it_then_is(self):
        circle = made(CIRCLE)
        self.assertEqual([one.many for one in moves_done(circle, [("loop", 0, 1), ("hang", 1, 1), ("unloop", 0)])],
                         [0, 1, 2, 1])
        check_raised(self, ("InvalidMoves", {"position": 0}), moves_done, circle, [("hang", 1, 1), ("loop", 0, 1)])
        check_raised(self, ("InvalidMoves", {"position": 15 - 1}), moves_done, circle, [("loop", 0, 1)] * 15)
        self.assertEqual(moves_done(circle, [("loop", 0, 1)] * 14)[-1].many, 14)
        ring = Drawing(Web((2, 3, 0, 1)), [1, -1])
        check_raised(self, ("InvalidMoves", {"position": 1}), moves_done, ring, [("loop", 0, 1), ("undouble", 0, 1)])

    def test_many(self):
        drawing = made(MIXED)
        found = moves_done(drawing, [("star", 0), ("triangle", 1)] * 100)
        self.assertEqual([len(found), found[200], found[100]], [201, drawing, drawing])

    def test_wrong_values(self):
        check_wrong(self, moves_done, {"drawing": made(MIXED), "moves": [("star", 0)]}, {
            "drawing": plain(NO_DRAWINGS, "InvalidDrawing"),
            "moves": [(value, "InvalidMoves", {"position": 0}) for value in NO_LISTS + [[None], [("star", 2)], [0], "star"]]})

    def test_new_each_time(self):
        moves = [("star", 0), ("loop", 1, -1)]
        first = moves_done(made(MIXED), moves)
        first.append(None)
        self.assertEqual(len(moves_done(made(MIXED), moves)), 3)
        self.assertEqual(moves, [("star", 0), ("loop", 1, -1)])


class Small(unittest.TestCase):

    def test_all_of_them(self):
        many = {}
        for drawing in SMALL + REACHED + FULL:
            found = small_moves(made(drawing))
            self.assertEqual(found, cord_model.small_moves(drawing))
            self.assertEqual(type(found), list)
            for move in found:
                self.assertEqual([type(move), type(move[0])] + [type(one) for one in move[1:]],
                                 [tuple, str] + [int] * (len(move) - 1))
                many[move[0]] = True
        self.assertEqual(sorted(many), sorted(cord_model.WORDS[4:]))

    def test_examples_told(self):
        star = moved(made(MIXED), ("star", 0))
        self.assertEqual(small_moves(star), [("triangle", 1), ("unhang", 0), ("unhang", 1), ("unhang", 2)])
        self.assertEqual([small_moves(plain_drawing(Web(THREE))), small_moves(made(CIRCLE))], [[], []])

    def test_those_of_a_plain_chart_lay_nothing_off(self):
        for turn in model.block_names(6):
            self.assertEqual(small_moves(plain_drawing(Web(turn))), [])

    def test_wrong_values(self):
        check_wrong(self, small_moves, {"drawing": made(MIXED)}, {"drawing": plain(NO_DRAWINGS, "InvalidDrawing")})
        check_kept(self, small_moves, made(MIXED))


if __name__ == "__main__":
    unittest.main()

"""Rows of over and under, drawings out of them, even numbers: [9b3], [9b4]."""

import unittest
from itertools import permutations, product
from random import Random

import cord_model
import desk_model
import model
from neverfewer.codes import are_same_rows, drawing_of, even_numbers, rows_of
from neverfewer.cords import cords
from neverfewer.drawings import Drawing, drawings_alike, from_behind, other_colour, plain_drawing
from neverfewer.webs import Web, behind
from wrong import KINDS, check_kept, check_raised, check_wrong, plain, webs_and
from test_cords import wrong_directions
from test_drawings import NO_DRAWINGS, THREE, made, told

DRAWINGS = cord_model.drawings_up_to(2) + cord_model.some_drawings([3, 4]) + cord_model.some_drawings([5], 15)
DRAWINGS += [(turn, cord_model.some_marks(turn, 2)) for turn in (
    model.ring(14), model.star(14), model.bunch(14), model.grown(14, 2), model.grown(11, 5), model.about(model.star(12)), model.grown(9, 1))]


def each(every=1):
    for drawing in DRAWINGS[::every]:
        for ways in cord_model.all_directions(drawing[0])[:8]:
            yield drawing, ways


def mixed_up(rows, luck):
    """The same rows in another sequence, each begun elsewhere."""
    rows = [row[at:] + row[:at] for row in rows for at in [luck.randrange(len(row) or 1)]]
    luck.shuffle(rows)
    return rows


class Rows(unittest.TestCase):

    def test_all_of_them(self):
        for drawing, ways in each():
            found = rows_of(made(drawing), ways)
            self.assertEqual(found, desk_model.rows_of(drawing, ways))
            self.assertEqual([type(found)] + [type(row) for row in found], [list] * (len(found) + 1))
            self.assertTrue(all(type(step) is tuple for row in found for step in row))
            self.assertEqual(rows_of(drawing=made(drawing), directions=ways), found)

    def test_without_ties(self):
        for way in (0, 1):
            self.assertEqual(rows_of(plain_drawing(Web(())), (way,)), [[]])

    def test_the_other_colour_from_behind(self):
        for (turn, marks), ways in each(2):
            drawing = made((turn, marks))
            # Turned about, even ends e are called e ^ 2; from behind each end e is called e ^ 1.
            come = {(end ^ 2 if end % 2 == 0 else end) ^ 1 for end in cord_model.came_in(turn, ways)}
            there = from_behind(other_colour(drawing))
            fitting = cord_model.directions_of(there.web().turn(), come) if turn else (0,)
            self.assertIs(are_same_rows(rows_of(there, fitting), rows_of(drawing, ways)), True)

    def test_by_turns(self):
        for turn, marks in DRAWINGS:
            for row in rows_of(plain_drawing(Web(turn)), cord_model.all_directions(turn)[-1]):
                words = [word for tie, word, sign in row]
                self.assertTrue(all(words[at] != words[at - 1] for at in range(len(words))))

    def test_wrong_values(self):
        for turn in (THREE, (2, 3, 0, 1), ()):
            good = {"drawing": plain_drawing(Web(turn)), "directions": cord_model.all_directions(turn)[-1]}
            check_wrong(self, rows_of, good, {
                "drawing": plain(NO_DRAWINGS, "InvalidDrawing"), "directions": plain(wrong_directions(turn), "InvalidDirections")})
            check_kept(self, rows_of, *good.values())


class SameRows(unittest.TestCase):

    def test_in_another_sequence(self):
        luck = Random(5)
        for drawing, ways in each(2):
            rows = rows_of(made(drawing), ways)
            for _ in range(3):
                other = mixed_up(rows, luck)
                self.assertIs(are_same_rows(rows, other), True)
                self.assertIs(are_same_rows(rows=tuple(map(tuple, other)), other=rows), True)

    def test_all_pairs(self):
        some = [rows_of(made(drawing), ways) for drawing, ways in each(9) if len(drawing[1]) <= 4]
        found = {True: 0, False: 0}
        for one in some:
            for other in some:
                same = desk_model.same_rows(one, other)
                self.assertIs(are_same_rows(one, other), same)
                found[same] += 1
        self.assertGreater(found[True], len(some) - 1)

    def test_any_rows(self):
        over, under = (0, "over", 1), (0, "under", 1)
        rows = [[], [[]], [[], []], [[over]], [[over, under]], [[under, over]], [[over], [under]], [[under], [over]],
                [[over, over, under]], [[over, under, over]], [[over, under], []], [[over, under, over, under]],
                [[(0, "over", -1), under]], [[over, under, (1, "over", 1)]], [[over, (1, "over", 1), under]], [[over], [over]]]
        for one in rows:
            for other in rows:
                self.assertIs(are_same_rows(one, other), desk_model.same_rows(one, other), (one, other))


def all_codes(many):
    """All lists of rows of so many ties, each tie once over, once under, with one sign, some of them the SAME."""
    passes = [(tie, word) for tie in range(many) for word in ("over", "under")]
    for order in permutations(passes):
        for cuts in product((0, 1), repeat=max(0, len(order) - 1)):
            for signs in product((1, -1), repeat=many):
                rows, row = [], []
                for at, (tie, word) in enumerate(order):
                    row.append((tie, word, signs[tie]))
                    if at == len(order) - 1 or cuts[at]:
                        rows.append(row)
                        row = []
                yield rows


def realized(many):
    """The rows of all drawings of so many ties by all directions, each told in one way."""
    found = set()
    for name in model.names(many):
        for ties in permutations(range(many)):
            turn = model.called(name, [2 * tie + side for tie in ties for side in (0, 1)])
            for marks in cord_model.all_marks(turn):
                for ways in cord_model.all_directions(turn):
                    found.add(desk_model.told_rows(desk_model.rows_of((turn, marks), ways)))
    return found


class DrawingOf(unittest.TestCase):

    def check(self, rows):
        found = drawing_of(rows)
        self.assertEqual([type(found), type(found[0]), type(found[1])], [tuple, Drawing, tuple])
        self.assertTrue(desk_model.same_rows(desk_model.rows_of(told(found[0]), found[1]), [list(row) for row in rows]))
        self.assertIs(are_same_rows(rows_of(*found), rows), True)
        return found[0]

    def test_rows_of_drawings(self):
        luck = Random(6)
        for drawing, ways in each():
            rows = rows_of(made(drawing), ways)
            for other in (rows, mixed_up(rows, luck), tuple(map(tuple, rows))):
                found = self.check(other)
                # A drawing is known by its rows, but for its other colour from behind.
                back = from_behind(other_colour(made(drawing)))
                self.assertTrue(drawings_alike(found, made(drawing)) or drawings_alike(found, back))

    def test_all_rows(self):
        for many in (0, 1, 2):
            wanted, found = realized(many), {True: 0, False: 0}
            for rows in all_codes(many):
                there = desk_model.told_rows(rows) in wanted if many else rows == [[]]
                found[there] += 1
                if there:
                    self.check(rows)
                else:
                    check_raised(self, ("InvalidRows", {"value": rows}), drawing_of, rows)
            self.assertTrue(many == 0 or min(found.values()) > 0)

    def test_rows_of_three_ties(self):
        wanted, luck, found = realized(3), Random(7), {True: 0, False: 0}
        codes = list(all_codes(3))
        for rows in [codes[luck.randrange(len(codes))] for _ in range(3000)]:
            there = desk_model.told_rows(rows) in wanted
            found[there] += 1
            if there:
                self.check(rows)
            else:
                check_raised(self, ("InvalidRows", {"value": rows}), drawing_of, rows)
        self.assertGreater(min(found.values()), 20)

    def test_none_on_a_ball(self):
        # The word of a cord that cannot be drawn without further crossings.
        rows = [[(0, "over", 1), (1, "over", 1), (0, "under", 1), (1, "under", 1)]]
        check_raised(self, ("InvalidRows", {"value": rows}), drawing_of, rows)
        for sign in (1, -1):
            rows = [[(tie, word, sign) for tie, word in zip((0, 1, 2, 0, 1, 2), ("over", "under") * 3)]]
            self.check(rows)
        # One sign of the ring of three negated: a ball is not enough.
        rows = [[(tie, word, -1 if tie == 1 else 1) for tie, word in zip((0, 1, 2, 0, 1, 2), ("over", "under") * 3)]]
        check_raised(self, ("InvalidRows", {"value": rows}), drawing_of, rows)

    def test_circles_apart(self):
        over, under = (0, "over", 1), (0, "under", 1)
        for rows in ([], [[], []], [[over, under], []], [[], [over, under]], [[over, under], [(1, "over", 1), (1, "under", 1)]]):
            check_raised(self, ("InvalidRows", {"value": rows}), drawing_of, rows)
        for rows in ([[]], [()], ((),)):
            self.assertEqual(told(drawing_of(rows)[0]), ((), ()))

    def test_fourteen_ties_and_fifteen(self):
        def curls(many):
            return [[(tie, word, 1) for tie in range(many) for word in ("over", "under")]]
        self.assertEqual(self.check(curls(14)).many, 14)
        check_raised(self, ("InvalidRows", {"value": curls(15)}), drawing_of, curls(15))

    def test_any_value(self):
        over, under = (0, "over", 1), (0, "under", 1)
        self.check([[over, under]])
        wrong = [value for value in KINDS if value != ()] + [
            [[over]], [[under]], [[over, under, over]], [[over, under], [under]], [[over, under], []], [[over, over]], [[under, under]], [[over, under, over, under]], [[over, (0, "under", -1)]],
            [[(1, "over", 1), (1, "under", 1)]], [[(0, "over", 1), (1, "under", 1)]], [[list(over), under]], [[over[:2], under]],
            [[over + (0,), under]], [[(False, "over", 1), (False, "under", 1)]], [[(0, "over", True), (0, "under", True)]],
            [[(0, "Over", 1), under]], [[(0, "", 1), under]], [[(0, None, 1), under]], [[(0, ["over"], 1), under]],
            [[(0, "over", 2), (0, "under", 2)]], [[(0, "over", 0), (0, "under", 0)]], [[("0", "over", 1), ("0", "under", 1)]],
            [[(-1, "over", 1), (-1, "under", 1)]], [[((0,), "over", 1), under]], [over, under], {0: [over, under]}, [{0: over}],
            [[over, None]], [None], [[over, under], None], ["ab"], "ab", [[over, under, None]], [[10 ** 20]], [[[], under]],
            [[({}, "over", 1), under]], [[(0, "over", [])], [under]]]
        for value in wrong:
            check_raised(self, ("InvalidRows", {"value": value}), drawing_of, value)
            check_raised(self, ("InvalidRows", {"value": value}), drawing_of, rows=value)

    def test_what_is_passed_stays(self):
        rows = rows_of(plain_drawing(Web(THREE)), (1,))
        before = [list(row) for row in rows]
        drawing_of(rows)
        are_same_rows(rows, rows)
        self.assertEqual(rows, before)


class EvenNumbers(unittest.TestCase):

    def test_all_of_them(self):
        found = {True: 0, False: 0}
        for turn, marks in DRAWINGS:
            is_one = len(cord_model.cords(turn)) == 1
            found[is_one] += 1
            if is_one:
                told_numbers = even_numbers(Web(turn))
                self.assertEqual(told_numbers, desk_model.even_numbers(turn))
                self.assertEqual([type(told_numbers)] + [type(one) for one in told_numbers], [list] + [int] * len(told_numbers))
                self.assertEqual(sorted(told_numbers), list(range(2, len(turn) + 1, 2)))
                self.assertEqual(even_numbers(web=Web(turn)), told_numbers)
            else:
                check_raised(self, ("NotOne", {}), even_numbers, Web(turn))
                check_raised(self, ("NotOne", {}), even_numbers, web=Web(turn))
        self.assertGreater(min(found.values()), 30)

    def test_over_at_odd_numbers(self):
        for turn, marks in DRAWINGS:
            if len(cords(Web(turn))) == 1 and turn:
                row, = rows_of(plain_drawing(Web(turn)), (0,))
                self.assertEqual(len({word for tie, word, sign in row[::2]}), 1)
                self.assertEqual(len({word for tie, word, sign in row[1::2]}), 1)

    def test_no_ties(self):
        self.assertEqual(even_numbers(Web(())), [])
        self.assertEqual(even_numbers(Web((0, 1))), [2])
        self.assertEqual(len(even_numbers(behind(Web(model.ring(13))))), 13)

    def test_wrong_values(self):
        check_wrong(self, even_numbers, {"web": Web(THREE)}, {"web": webs_and((Web((2, 3, 0, 1)), "NotOne", {}))})
        check_kept(self, even_numbers, Web(THREE))


if __name__ == "__main__":
    unittest.main()

"""Signs of ties, their sum, the end that goes over, linking: [5b3], [5b4], [5b5]."""

import unittest
from itertools import combinations

import cord_model
import model
from neverfewer.cords import cords
from neverfewer.drawings import Drawing, from_behind, negated, other_colour, plain_drawing
from neverfewer.flypes import flyped, flypes
from neverfewer.moves import moved
from neverfewer.signs import linking, over_end, signs, sum_of_signs
from neverfewer.webs import Web, is_bridge, is_loop
from wrong import check_kept, check_raised, check_wrong, no_counts, plain
from test_cords import BARE, TWO, wrong_directions
from test_drawings import NO_DRAWINGS, THREE, made, told

DRAWINGS = cord_model.drawings_up_to(2) + cord_model.some_drawings([3, 4]) + cord_model.some_drawings([5], 9)
DRAWINGS += [(turn, cord_model.some_marks(turn, 2)) for turn in (
    model.grown(8, 3), model.ring(9), model.ring(10), model.bunch(8), model.grown(14, 6), model.star(7))]


def each():
    for drawing in DRAWINGS:
        for ways in cord_model.all_directions(drawing[0])[:8]:
            yield drawing, ways


def sums(drawing):
    """The sums of the signs by all directions, sorted."""
    return sorted(sum_of_signs(drawing, ways) for ways in cord_model.all_directions(drawing.web().turn()))


class Signs(unittest.TestCase):

    def test_all_of_them(self):
        for drawing, ways in each():
            one = signs(made(drawing), ways)
            self.assertEqual(one, cord_model.signs(drawing, ways))
            self.assertEqual([type(one)] + [type(sign) for sign in one], [list] + [int] * len(one))
            self.assertEqual(signs(drawing=made(drawing), directions=ways), one)
            self.assertEqual(sum_of_signs(made(drawing), ways), sum(one))
            self.assertEqual(sum_of_signs(drawing=made(drawing), directions=ways), sum(one))

    def test_loops_and_bridges(self):
        for drawing, ways in each():
            found = signs(made(drawing), ways)
            for tie, mark in enumerate(drawing[1]):
                if is_loop(Web(drawing[0]), tie):
                    self.assertEqual(found[tie], mark)
                if is_bridge(Web(drawing[0]), tie):
                    self.assertEqual(found[tie], -mark)

    def test_cords_the_other_way_round(self):
        for drawing, ways in each():
            found = signs(made(drawing), ways)
            self.assertEqual(signs(made(drawing), tuple(1 - way for way in ways)), found)
            for at in range(len(ways)):
                other = signs(made(drawing), ways[:at] + (1 - ways[at],) + ways[at + 1:])
                crossed = set()
                for more in range(len(ways)):
                    if more != at:
                        crossed |= cord_model.crossings(drawing[0], at, more)
                self.assertEqual(other, [-sign if tie in crossed else sign for tie, sign in enumerate(found)])

    def test_other_sides(self):
        for drawing, ways in each():
            if len(ways) > 4:
                continue
            one, ends = made(drawing), cord_model.came_in(drawing[0], ways)
            self.assertEqual(signs(negated(one), ways), [-sign for sign in signs(one, ways)])
            back = from_behind(one)
            there = cord_model.directions_of(back.web().turn(), {end ^ 1 for end in ends})
            self.assertEqual(signs(back, there), signs(one, ways))
            other = other_colour(one)
            there = cord_model.directions_of(other.web().turn(), {end if end % 2 else end ^ 2 for end in ends})
            self.assertEqual(signs(other, there), signs(one, ways))

    def test_sums_and_moves(self):
        words = set()
        for seed, drawing in enumerate(DRAWINGS[:140]):
            before = sums(made(drawing))
            for move in cord_model.moves_in_plenty(drawing, seed, 6):
                if cord_model.can_be_done(drawing, move):
                    words.add(move[0])
                    by = {"loop": move[-1], "hang": -move[-1]}.get(move[0], 0)
                    if move[0] in ("unloop", "unhang"):
                        by = drawing[1][move[1]] * (-1 if move[0] == "unloop" else 1)
                    self.assertEqual(sums(moved(made(drawing), move)), [one + by for one in before], (drawing, move))
        self.assertEqual(len(words), len(cord_model.WORDS))

    def test_sums_and_flypes(self):
        for turn in model.block_names(6)[::2] + model.block_names(7)[::8] + [model.grown(10, 2)]:
            web = Web(turn)
            for mark in (1, -1):
                before = sums(Drawing(web, [mark] * web.many))
                for tie, ties in flypes(web)[::2]:
                    self.assertEqual(sums(Drawing(flyped(web, tie, ties), [mark] * web.many)), before)

    def test_the_end_that_goes_over(self):
        for drawing, ways in each():
            for tie in range(len(drawing[1])):
                one = over_end(made(drawing), ways, tie)
                self.assertEqual(one, cord_model.over_end(drawing, ways, tie))
                self.assertEqual([type(one), one % 2], [int, 0 if drawing[1][tie] == 1 else 1])
                self.assertEqual(over_end(drawing=made(drawing), directions=ways, tie=tie), one)

    def test_examples_told(self):
        for marks in cord_model.all_marks(THREE):
            for ways in ((0,), (1,)):
                self.assertEqual(signs(made((THREE, marks)), ways), list(marks))
        for marks in cord_model.all_marks(TWO):
            for ways in cord_model.all_directions(TWO):
                other = [mark if ways[0] == ways[1] else -mark for mark in marks]
                self.assertEqual(signs(made((TWO, marks)), ways), other)
        for way in (0, 1):
            self.assertEqual([signs(made(((), ())), (way,)), sum_of_signs(made(((), ())), (way,))], [[], 0])

    def test_wrong_values(self):
        for drawing in ((THREE, (1, 1, -1)), (TWO, (1, -1)), (model.ring(6), (1,) * 6)):
            turn = drawing[0]
            good = {"drawing": made(drawing), "directions": (0,) * len(cord_model.cords(turn))}
            wrong = {"drawing": plain(NO_DRAWINGS, "InvalidDrawing"),
                     "directions": plain(wrong_directions(turn), "InvalidDirections")}
            for call in (signs, sum_of_signs):
                check_wrong(self, call, good, wrong)
            wrong["tie"] = plain(no_counts(len(turn) // 2), "InvalidTie")
            check_wrong(self, over_end, {**good, "tie": 0}, wrong)
        check_raised(self, ("InvalidTie", {"value": 0}), over_end, made(((), ())), (0,), 0)

    def test_new_each_time(self):
        drawing = made((TWO, (1, -1)))
        check_kept(self, signs, drawing, (0, 1))
        check_kept(self, over_end, drawing, (0, 1), 1)
        self.assertEqual(told(drawing), (TWO, (1, -1)))


class Linking(unittest.TestCase):

    def test_each_two_cords(self):
        many = 0
        for drawing, ways in each():
            for one, other in combinations(range(len(ways)), 2):
                found = linking(made(drawing), ways, one, other)
                self.assertEqual(found, cord_model.linking(drawing, ways, one, other))
                self.assertIs(type(found), int)
                self.assertEqual(linking(drawing=made(drawing), directions=ways, one=other, other=one), found)
                many += found != 0
        self.assertGreater(many, 30)

    def test_the_other_way_round(self):
        for drawing, ways in each():
            for one, other in combinations(range(len(ways)), 2):
                found = linking(made(drawing), ways, one, other)
                for at in range(len(ways)):
                    changed = ways[:at] + (1 - ways[at],) + ways[at + 1:]
                    self.assertEqual(linking(made(drawing), changed, one, other), -found if at in (one, other) else found)
                both = tuple(1 - way for way in ways)
                self.assertEqual(linking(made(drawing), both, one, other), found)

    def test_all_signs(self):
        for drawing, ways in each():
            whole = made(drawing)
            links = sum(linking(whole, ways, one, other) for one, other in combinations(range(len(ways)), 2))
            rows = [[end // 4 for end in cord] for cord in cords(whole.web())]
            alone = [tie for row in rows for tie in set(row) if row.count(tie) == 2]
            self.assertEqual(sum_of_signs(whole, ways), sum(signs(whole, ways)[tie] for tie in alone) + 2 * links)

    def test_wrong_values(self):
        for turn in (TWO, model.ring(6), model.star(1)):
            many = len(cord_model.cords(turn))
            drawing = plain_drawing(Web(turn))
            good = {"drawing": drawing, "directions": (0,) * many, "one": 0, "other": 1}
            wrong = {"drawing": plain(NO_DRAWINGS, "InvalidDrawing"),
                     "directions": plain(wrong_directions(turn), "InvalidDirections"),
                     "one": plain(no_counts(many), "InvalidCord"), "other": plain(no_counts(many) + [0], "InvalidCord")}
            if many == 2:
                check_wrong(self, linking, good, wrong)
            else:
                for value in no_counts(many) + [0]:
                    check_raised(self, ("InvalidCord", {"value": value}), linking, drawing, (0,) * many, 0, value)
        two = plain_drawing(Web(TWO))
        for at in (0, 1):
            check_raised(self, ("InvalidCord", {"value": at}), linking, two, (0, 0), at, at)
            self.assertEqual(linking(two, (0, 0), at, 1 - at), 1)
        check_raised(self, ("InvalidCord", {"value": 2}), linking, two, (0, 0), 2, 2)
        check_raised(self, ("InvalidCord", {"value": True}), linking, two, (0, 0), 0, True)
        for value in (0, 1, None):
            check_raised(self, ("InvalidCord", {"value": value}), linking, plain_drawing(Web(())), (0,), 0, value)
        check_raised(self, ("InvalidCord", {"value": 1}), linking, plain_drawing(Web(BARE)), (1,), 1, 0)
        check_kept(self, linking, two, (0, 1), 0, 1)


if __name__ == "__main__":
    unittest.main()

"""Spans, even circles, full drawings, span papers, never fewer: [7a], NEVER FEWER and SPAN of [4]."""

import unittest

import cord_model
import model
import ring_model
from neverfewer.blocks import blocks, joined
from neverfewer.drawings import Drawing, from_behind, negated, other_colour, plain_drawing
from neverfewer.moves import moves_done
from neverfewer.spans import even_circles, is_full, is_span_paper, least_ties, never, span, span_paper
from neverfewer.webs import Web, is_chart
from wrong import KINDS, NO_LISTS, check_bools, check_kept, check_raised, check_wrong, plain, webs_and
from test_drawings import NO_DRAWINGS, THREE, made
from test_states import CHARTS, DRAWINGS

# Webs put together from small blocks, with marks alike in each, and unlike ones, too.
CHAINED = []
for seed, (one, two) in enumerate([
        (model.ring(3), model.bunch(3)), (model.ring(2), model.grown(5, 2)), (model.grown(4, 1), (0, 1)),
        ((1, 0), model.ring(4)), (model.ring(2), model.ring(2)), (model.grown(5, 5), model.grown(4, 6))]):
    for marks in ((1, 1), (1, -1), (-1, 1)):
        CHAINED.append((model.joined(one, seed % len(one), two, seed % len(two)),
                        (marks[0],) * (len(one) // 2) + (marks[1],) * (len(two) // 2)))
ALL = cord_model.drawings_up_to(3) + DRAWINGS + CHAINED
LARGE = [(turn, cord_model.some_marks(turn, 2)) for turn in (
    model.ring(14), model.star(14), model.grown(14, 1), model.about(model.star(13)),
    model.joined(model.grown(7, 1), 3, model.grown(7, 2), 4))]
LARGE += [(turn, (1,) * (len(turn) // 2)) for turn, marks in LARGE]
LARGE += [(model.joined(model.grown(7, 1), 3, model.grown(7, 2), 4), (1,) * 7 + (-1,) * 7)]


class Spans(unittest.TestCase):

    def test_all_of_them(self):
        for drawing in ALL:
            told = span(made(drawing))
            self.assertEqual([told, type(told)], [ring_model.span(drawing), int])
            self.assertEqual(span(drawing=made(drawing)), told)
            self.assertEqual([least_ties(made(drawing)), type(least_ties(made(drawing)))], [told // 4, int])
            self.assertEqual(least_ties(drawing=made(drawing)), told // 4)

    def test_a_multiple_of_four(self):
        for drawing in ALL:
            told, both = span(made(drawing)), sum(even_circles(made(drawing)))
            self.assertEqual(told % 4, 0)
            self.assertLessEqual(told, 2 * len(drawing[1]) + 2 * both - 4)

    def test_at_most_four_times_the_ties(self):
        for drawing in ALL:
            self.assertLessEqual(span(made(drawing)), 4 * len(drawing[1]))
            self.assertIs(span(made(drawing)) == 4 * len(drawing[1]), is_full(made(drawing)))

    def test_blocks_of_one_mark(self):
        for turn, marks in ALL:
            rows = blocks(Web(turn))
            if all(len({marks[tie] for tie in ties}) == 1 for ties in rows):
                many = sum(len(ties) for ties in rows if len(ties) >= 2)
                self.assertEqual(span(made((turn, marks))), 4 * many)

    def test_charts(self):
        for turn in CHARTS:
            for drawing in (plain_drawing(Web(turn)), negated(plain_drawing(Web(turn)))):
                self.assertEqual([span(drawing), least_ties(drawing)], [2 * len(turn), len(turn) // 2])

    def test_ten_ties_and_eleven(self):
        for turn in (model.grown(10, 3), model.ring(10), model.star(10)):
            drawing = (turn, cord_model.some_marks(turn, 1))
            self.assertEqual(least_ties(made(drawing)) * 4, span(made(drawing)))
        for turn in (model.ring(11), model.star(11), model.grown(14, 2)):
            for call in (span, least_ties):
                check_raised(self, ("TooMany", {"what": "ties", "limit": 10}), call, plain_drawing(Web(turn)))
                check_raised(self, ("TooMany", {"what": "ties", "limit": 10}), call, drawing=plain_drawing(Web(turn)))

    def test_moves_keep_the_span(self):
        for seed, drawing in enumerate(ALL[::5]):
            if len(drawing[1]) <= 6:
                told = span(made(drawing))
                for other in cord_model.wandered(drawing, seed, 8, 7)[1]:
                    self.assertEqual(span(made(other)), told)
                    self.assertGreaterEqual(len(other[1]), least_ties(made(drawing)))

    def test_wrong_values(self):
        for call in (span, least_ties, even_circles, is_full, span_paper):
            check_wrong(self, call, {"drawing": made((THREE, (1, 1, -1)))}, {"drawing": plain(NO_DRAWINGS, "InvalidDrawing")})


class EvenCircles(unittest.TestCase):

    def test_all_of_them(self):
        for drawing in ALL + LARGE:
            told = even_circles(made(drawing))
            self.assertEqual(told, ring_model.even_circles(drawing))
            self.assertEqual([type(told)] + [type(many) for many in told], [tuple, int, int])
            self.assertEqual(even_circles(drawing=made(drawing)), told)

    def test_together(self):
        for turn, marks in ALL + LARGE:
            both = sum(even_circles(made((turn, marks))))
            self.assertLessEqual(both, len(marks) + 2)
            alike = all(len({marks[tie] for tie in ties}) == 1 for ties in model_blocks(turn))
            self.assertIs(both == len(marks) + 2, alike)

    def test_no_ties(self):
        self.assertEqual(even_circles(plain_drawing(Web(()))), (1, 1))


def model_blocks(turn):
    return blocks(Web(turn)) if len(turn) > 16 else model.blocks(turn)


class Full(unittest.TestCase):

    def test_all_of_them(self):
        for drawing in ALL:
            self.assertIs(is_full(made(drawing)), ring_model.is_full(drawing))
            self.assertIs(is_full(drawing=made(drawing)), ring_model.is_full(drawing))
        self.assertEqual([is_full(made(drawing)) for drawing in LARGE],
                         [False] * 5 + [True, False, True, False, True] + [True])

    def test_charts_and_the_circle(self):
        for turn in CHARTS:
            self.assertIs(is_full(plain_drawing(Web(turn))), True)
        self.assertIs(is_full(plain_drawing(Web(()))), True)
        for turn in ((0, 1), (1, 0), (2, 1, 3, 0)):
            self.assertIs(is_full(plain_drawing(Web(turn))), False)

    def test_what_keeps_it(self):
        for drawing in ALL + LARGE:
            for change in (other_colour, negated, from_behind):
                self.assertIs(is_full(change(made(drawing))), is_full(made(drawing)))

    def test_joined(self):
        some = [drawing for drawing in ALL if len(drawing[1]) <= 5][::9] + CHAINED[:5]
        for one in some:
            for other in some[::3]:
                web = joined(Web(one[0]), 0, Web(other[0]), 0)
                both = is_full(made(one)) and is_full(made(other))
                self.assertIs(is_full(Drawing(web, one[1] + other[1])), both)


class Papers(unittest.TestCase):

    def test_the_one_that_is_told(self):
        for drawing in ALL:
            told = span_paper(made(drawing))
            self.assertEqual(told, ring_model.span_paper(drawing))
            self.assertIs(type(told), tuple)
            if told[0] == "full":
                self.assertEqual([type(told[1])] + [type(pair) for pair in told[1]], [list] + [tuple] * len(told[1]))
            self.assertEqual(span_paper(drawing=made(drawing)), told)
            self.assertIs(told[0] == "full", is_full(made(drawing)))
        for drawing in LARGE:
            self.assertIs(is_span_paper(made(drawing), span_paper(made(drawing))), True)

    def test_which_are_papers(self):
        for drawing in ALL:
            full, less = ring_model.full_paper(drawing), ring_model.less_papers(drawing)
            self.assertIs(is_span_paper(made(drawing), full), not less)
            self.assertIs(is_span_paper(drawing=made(drawing), value=("full", tuple(full[1]))), not less)
            many = range(len(drawing[1]) + 1)
            for value in [("less", "single", tie) for tie in many] + [
                    ("less", "mixed", one, other) for one in many for other in many]:
                self.assertIs(is_span_paper(made(drawing), value), value in less, (drawing, value))

    def test_one_thing_changed(self):
        for drawing in (CHAINED[0], CHAINED[4], CHAINED[14], (model.grown(6, 3), (-1,) * 6)):
            self.assertTrue(ring_model.is_full(drawing))
            word, pairs = ring_model.full_paper(drawing)
            for value in [
                    ("full", pairs[::-1]) if len(pairs) > 1 else ("full",), ("full", pairs[1:]), ("full", pairs + pairs[:1]),
                    ["full", pairs], ("fuller", pairs), ("full", pairs, 0), ("full", [list(pair) for pair in pairs]),
                    ("full", [(ties, -mark) for ties, mark in pairs]), ("full", [(list(ties), mark) for ties, mark in pairs]),
                    ("full", [(ties, str(mark)) for ties, mark in pairs]), ("full", [pair + (0,) for pair in pairs]),
                    ("full", [(ties[1:], mark) for ties, mark in pairs]), ("full", dict(pairs)), ("less", pairs),
                    ("full", [(ties, True if mark == 1 else 2) for ties, mark in pairs]), ("full", None), ("full", "ab"),
                    ("full", [(ties[:1] + (True,) + ties[2:], mark) for ties, mark in pairs])]:
                self.assertIs(is_span_paper(made(drawing), value), False, value)

        three = made((THREE, (1, 1, 1)))
        self.assertIs(is_span_paper(three, ("full", [((0, 1, 2), 1)])), True)
        for pair in KINDS + ["ab", ((0, 1, 2),), ((0, 1, 2), 1, 1), {0: (0, 1, 2), 1: 1}, ((0, 1, 2), None), (None, 1), 5]:
            self.assertIs(is_span_paper(three, ("full", [pair])), False, pair)

    def test_wrong_kinds(self):
        for drawing in ((THREE, (1, 1, -1)), ((0, 1), (1,)), ((), ()), CHAINED[1]):
            check_bools(self, lambda value: is_span_paper(made(drawing), value), KINDS)
        mixed = made((THREE, (1, 1, -1)))
        check_bools(self, lambda value: is_span_paper(mixed, value), [
            ("less", "mixed", 0, 1), ("less", "mixed", 2, 0), ("less", "mixed", 2, 1), ["less", "mixed", 0, 2],
            ("less", "mixed", False, 2), ("less", "mixed", True, 2), ("less", "mixed", 0, "2"), ("less", "mixed", 0),
            ("less", "mixed", 0, 2, 2), ("less", "single", 0), ("less", "mixed", 0, 3), ("less", "mixed", -1, 2),
            ("less", "mixed", (0,), (2,)), ("less", "other", 0, 2), ("less", ["mixed"], 0, 2), ("less",), ("less", "mixed"),
            ("mixed", 0, 2), ("less", "mixed", 0, None), ("less", "mixed", 0, 10 ** 20), (None, "mixed", 0, 2)])
        hung = made((model.joined(THREE, 0, (0, 1), 0), (1, 1, 1, 1)))
        self.assertIs(is_span_paper(hung, ("less", "single", 3)), True)
        check_bools(self, lambda value: is_span_paper(hung, value), [
            ("less", "single", True), ("less", "single", 0), ("less", "single", (3,)), ("less", "single", "3"),
            ("less", "single", 4), ("less", "single", 3, 3), ("less", "single"), ["less", "single", 3], ("single", 3),
            ("less", "single", None), ("less", "single", -1), ("less", "mixed", 3), ("less", "single ", 3), ("less", None, 3), ("full", [((0, 1, 2), 1), ((3,), 1)])])
        loop = made(((0, 1), (1,)))
        self.assertIs(is_span_paper(loop, ("less", "single", 0)), True)
        check_bools(self, lambda value: is_span_paper(loop, value), [("less", "single", False), ("full", [((0,), 1)])])
        self.assertIs(is_span_paper(plain_drawing(Web(())), ("full", [])), True)
        self.assertIs(is_span_paper(plain_drawing(Web(())), ("full", ())), True)

    def test_wrong_values(self):
        check_wrong(self, is_span_paper, {"drawing": made((THREE, (1, 1, -1))), "value": ("less", "mixed", 1, 2)}, {
            "drawing": plain(NO_DRAWINGS, "InvalidDrawing")})
        for drawing in CHAINED[:4]:
            check_kept(self, span_paper, made(drawing))


class Never(unittest.TestCase):

    def test_how_many_ties(self):
        for seed, turn in enumerate(CHARTS[::4] + [()]):
            start = (turn, (1,) * (len(turn) // 2))
            moves, drawings = cord_model.wandered(start, seed, 12, 14)
            told = never(Web(turn), moves)
            self.assertEqual(told, [len(marks) for web, marks in drawings])
            self.assertEqual([type(told)] + [type(many) for many in told], [list] + [int] * len(told))
            self.assertEqual(never(web=Web(turn), moves=tuple(moves)), told)
            self.assertEqual(min(told), told[0])
            self.assertEqual(told, [drawing.many for drawing in moves_done(plain_drawing(Web(turn)), moves)])

    def test_none_parts_it(self):
        for seed, turn in enumerate(CHARTS[::4] + [()] * 5):
            for drawing in cord_model.wandered((turn, (1,) * (len(turn) // 2)), seed, 12, 12)[1]:
                for move in cord_model.small_ones(drawing):
                    self.assertFalse(cord_model.does_part(drawing, move))

    def test_no_moves(self):
        for turn in CHARTS[::7]:
            self.assertEqual(never(Web(turn), []), [len(turn) // 2])
        self.assertEqual(never(Web(()), ()), [0])
        self.assertEqual(never(Web(model.ring(14)), []), [14])

    def test_moves_that_cannot_be_done(self):
        ring = Web(model.ring(14))
        for moves, at in [
                ([("loop", 0, 1)], 0), (["loop"], 0), ([("unhang", 3)], 0), ([None], 0), ([("star", 0)], 0)]:
            check_raised(self, ("InvalidMoves", {"position": at}), never, ring, moves)
        three = Web(THREE)
        for moves, at in [
                ([("hang", 0, 1), ("unloop", 3)], 1), ([("hang", 0, 1), ("unhang", 3), ("unhang", 3)], 2),
                ([("double", 0, 2, True)], 0), ([("hang", 0, 1), ["unhang", 3], None], 1)]:
            check_raised(self, ("InvalidMoves", {"position": at}), never, three, moves)

    def test_wrong_values(self):
        not_charts = [(Web(turn), "NotChart", {}) for many in range(1, 4) for turn in model.names(many)
                      if not model.is_chart(turn)]
        self.assertGreater(len(not_charts), 10)
        self.assertFalse(any(is_chart(value[0]) for value in not_charts))
        wrong_moves = [(value, "InvalidMoves", {"position": 0}) for value in NO_LISTS + [[None], [("loop",)], (0,)]]
        check_wrong(self, never, {"web": Web(THREE), "moves": [("hang", 0, 1)]}, {
            "web": webs_and(*not_charts), "moves": wrong_moves})
        moves = [("hang", 0, 1)]
        check_kept(self, never, Web(THREE), moves)
        self.assertEqual(moves, [("hang", 0, 1)])


if __name__ == "__main__":
    unittest.main()

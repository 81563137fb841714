"""Blocks built up and block papers: [1b4], [1b5], blocks [7]."""

import unittest
from random import Random

import model
from neverfewer.ears import block_paper, build, is_block, is_block_paper
from neverfewer.names import are_alike
from neverfewer.webs import Web, about, behind, is_chart
from wrong import KINDS, NO_LISTS, THING, check_bools, check_kept, check_raised, check_wrong, plain, webs_and

CHAIN = (6, 3, 0, 1, 2, 7, 4, 5)
FOUR = (4, 3, 0, 7, 2, 6, 5, 1)
TWO = (2, 3, 0, 1)


def charts():
    found = [turn for turn in model.webs_up_to(5) if model.is_chart(turn)] + model.blocks_up_to(6)
    rings = [model.joined(model.ring(one), 0, model.grown(other, other), 3) for one, other in ((2, 5), (4, 6), (6, 8))]
    return found + rings + [model.grown(many, many) for many in range(7, 15)] + [
        model.ring(14), model.bunch(14), model.joined(model.bunch(3), 1, model.joined(TWO, 0, model.ring(3), 2), 6)]


def rows_that_can_be_done(turn):
    darts = range(len(turn))
    return [("stretch", tie) for tie in range(len(turn) // 2)] + [
        ("lay", one, other) for one in darts for other in darts if model.row_done(turn, ("lay", one, other))]


class Blocks(unittest.TestCase):

    def test_just_the_blocks(self):
        for turn in model.webs_up_to(5):
            self.assertIs(is_block(Web(turn)), model.is_block(turn))
        for turn in [turn for turn in charts() if len(turn) > 10]:
            self.assertIs(is_block(Web(turn)), not any(
                len(row) > len({model.face(turn, dart) for dart in row}) for row in model.places(turn)))

    def test_seen_from_other_sides(self):
        for turn in charts():
            web = Web(turn)
            for other in (behind(web), about(web)):
                self.assertEqual([is_block(other), is_chart(other)], [is_block(web), True])

    def test_small_ones(self):
        told = [is_block(Web(turn)) for turn in ((), (0, 1), (1, 0), TWO, model.ring(3), CHAIN, model.star(3))]
        self.assertEqual(told, [False, False, False, True, True, False, False])

    def test_how_many_there_are(self):
        self.assertEqual([len([turn for turn in model.names(many) if is_block(Web(turn))]) for many in range(6)],
                         [0, 0, 1, 2, 3, 6])

    def test_wrong_values(self):
        check_wrong(self, is_block, {"web": Web(TWO)}, {"web": webs_and()})


class Built(unittest.TestCase):

    def test_rows_done(self):
        for seed in range(15):
            luck, turn, rows = Random(seed), TWO, []
            self.assertEqual(build(rows).turn(), turn)
            for _ in range(12):
                rows.append(luck.choice(rows_that_can_be_done(turn)))
                turn = model.row_done(turn, rows[-1])
                if len(rows) in (1, 2, 5, 9, 12):
                    self.assertEqual(build(rows).turn(), turn)
                    self.assertEqual(build(tuple(rows)).turn(), turn)
                    self.assertIs(is_block(build(rows)), True)

    def test_all_single_rows(self):
        for many in (2, 3, 4):
            for turn in model.block_names(many):
                paper = block_paper(Web(turn))
                built = build(paper[1])
                for row in rows_that_can_be_done(built.turn()):
                    self.assertEqual(build(paper[1] + [row]).turn(), model.row_done(built.turn(), row))

    def test_rows_that_cannot_be_done(self):
        wrong = KINDS + [
            ["stretch", 0], ["lay", 0, 3], ("stretch",), ("stretch", 0, 0), ("stretch", 2), ("stretch", -1),
            ("stretch", True), ("stretch", False), ("stretch", "0"), ("stretch", None), ("stretch", (0,)), ("lay",),
            ("lay", 0), ("lay", 0, 3, 0), ("lay", 0, 0), ("lay", 0, 2), ("lay", 0, 1), ("lay", 0, 4),
            ("lay", -1, 0), ("lay", False, 3), ("lay", 0, "3"), ("lay", True, 2), ("lay", 0, [3]), ("lay", None, 3),
            ("LAY", 0, 3), ("Stretch", 0), ("hang", 0), ("stretch", 10 ** 29), (b"stretch", 0), (0, 0), (None, 0),
            ("lay", 3, False), ((), 0), "lay", ("stretch", 0, None), ("take", 0),
        ]
        can = [("lay", 0, 3), ("lay", 3, 0), ("lay", 1, 2), ("lay", 2, 1), ("stretch", 0), ("stretch", 1)]
        self.assertEqual(sorted(rows_that_can_be_done(TWO)), sorted(can))
        for value in wrong:
            check_raised(self, ("InvalidBuild", {"position": 0}), build, [value])
            check_raised(self, ("InvalidBuild", {"position": 0}), build, (value, value))
            if model.row_done(build([("stretch", 0), ("stretch", 1)]).turn(), value) is None:
                check_raised(self, ("InvalidBuild", {"position": 2}), build, [("stretch", 0), ("stretch", 1), value])
        for row in can:
            self.assertEqual(build(rows=[row]).many, 3)

    def test_rows_are_asked_of_the_web_as_it_then_is(self):
        self.assertEqual(build([("stretch", 1), ("stretch", 2)]).many, 4)
        check_raised(self, ("InvalidBuild", {"position": 0}), build, [("stretch", 2), ("stretch", 1)])
        check_raised(self, ("InvalidBuild", {"position": 1}), build, [("stretch", 1), ("stretch", 3)])

    def test_the_first_wrong_row_decides(self):
        for at in range(12):
            rows = [("stretch", 0)] * at + [None] + [("stretch", 0)] * (11 - at) + [None]
            check_raised(self, ("InvalidBuild", {"position": at}), build, rows)

    def test_no_lists(self):
        for value in NO_LISTS:
            check_raised(self, ("InvalidBuild", {"position": 0}), build, value)
            check_raised(self, ("InvalidBuild", {"position": 0}), build, rows=value)

    def test_the_twelfth_row_and_the_thirteenth(self):
        rows = [("stretch", tie) for tie in range(12)]
        self.assertEqual(build(rows).many, 14)
        for more in (("stretch", 0), None, ("lay", 0, 0)):
            check_raised(self, ("TooMany", {"what": "ties", "limit": 14}), build, rows + [more])
            check_raised(self, ("TooMany", {"what": "ties", "limit": 14}), build, tuple(rows + [more] * 5))
        check_raised(self, ("InvalidBuild", {"position": 11}), build, rows[:11] + [("stretch", 13), ("stretch", 0)])

    def test_what_is_passed_stays(self):
        rows = [("lay", 0, 3), ("stretch", 2)]
        check_kept(self, build, rows)
        self.assertEqual(rows, [("lay", 0, 3), ("stretch", 2)])


class Papers(unittest.TestCase):

    def test_each_chart_has_one(self):
        for turn in charts():
            web = Web(turn)
            paper = block_paper(web)
            self.assertEqual([type(paper), len(paper)], [tuple, 3])
            self.assertIs(is_block_paper(web, paper), True)
            self.assertIs(model.is_block_paper(turn, paper), True)
            self.assertEqual(paper[0], "block" if is_block(web) else "parted")
            if paper[0] == "block":
                self.assertEqual([type(paper[1]), type(paper[2])], [list, list])
                self.assertEqual(len(paper[1]), web.many - 2)
                self.assertTrue(are_alike(build(paper[1]), web))

    def test_all_papers_that_part(self):
        for turn in charts():
            if len(turn) > 12:
                continue
            for ties in model.subsets(range(len(turn) // 2)):
                for place in model.places(turn):
                    paper = ("parted", place, ties)
                    self.assertIs(is_block_paper(Web(turn), paper), model.is_block_paper(turn, paper))

    def changed(self, paper, luck):
        """The paper with one thing changed."""
        word, one, other = paper
        yield (word, list(one), other)
        yield (word, tuple(one), other)
        yield (word, one, list(other))
        yield (word, one, tuple(other))
        yield [word, one, other]
        yield (word, one)
        yield (word, one, other, other)
        for more in ("block", "parted", "Block", b"block", None, THING, 0, ["block"]):
            yield (more, one, other)
        for more in KINDS + [one, other]:
            yield (word, more, other)
            yield (word, one, more)
        for at in range(len(one)):
            yield (word, one[:at] + one[at + 1:], other)
            yield (word, one[at:] + one[:at], other)
            yield (word, one[:at] + one[at:at + 1] + one[at:], other)
            for more in KINDS + [1, ("stretch", 0), ["stretch", 0], ("lay", 0, 0), ("lay", 0, 3)]:
                yield (word, one[:at] + type(one)([more]) + one[at + 1:], other)
            if type(one[at]) is tuple:
                yield (word, one[:at] + type(one)([list(one[at])]) + one[at + 1:], other)
        for at in range(len(other)):
            yield (word, one, other[:at] + other[at + 1:])
            yield (word, one, other[at:] + other[:at])
            for more in KINDS + [other[at] + 1, other[at] ^ 1, luck.randrange(8)]:
                yield (word, one, other[:at] + type(other)([more]) + other[at + 1:])

    def test_one_thing_changed(self):
        right = wrong = 0
        for seed, turn in enumerate(charts()[::3] + [FOUR, CHAIN, TWO]):
            web = Web(turn)
            for paper in self.changed(block_paper(web), Random(seed)):
                told = model.is_block_paper(turn, paper)
                self.assertIs(is_block_paper(web, paper), told, (turn, paper))
                right, wrong = right + told, wrong + (not told)
        self.assertGreater(min(right, wrong), 100)

    def test_numbers_that_are_true_or_false(self):
        two, chain = Web(TWO), Web(CHAIN)
        right = ("block", [], [0, 1, 2, 3]), ("parted", (0, 6, 4, 2), (0, 1))
        self.assertEqual([is_block_paper(two, right[0]), is_block_paper(chain, right[1])], [True, True])
        self.assertIs(is_block_paper(Web(FOUR), ("block", [("lay", 0, 3), ("stretch", 2)], list(range(8)))), True)
        check_bools(self, lambda value: is_block_paper(two, value), [
            ("block", [], [False, 1, 2, 3]), ("block", [], [0, True, 2, 3]), right[1]])
        check_bools(self, lambda value: is_block_paper(chain, value), [
            ("parted", (False, 6, 4, 2), (0, 1)), ("parted", (0, 6, 4, 2), (False, True)),
            ("parted", (0, 6, 4, 2), (0, True)), ("parted", (6, 4, 2, 0), (0, 1)), ("parted", (0, 6, 4, 2), (1, 0)),
            ("parted", (0, 6, 4, 2), (0, 0, 1)), ("parted", (0, 6, 4, 2), (0, 1, 1)),
            ("parted", (0, 6, 4, 2), ()), ("parted", (0, 6, 4, 2), (0, 1, 2, 3)), ("parted", [0, 6, 4, 2], (0, 1)),
            ("parted", (0, 6, 4, 2), [0, 1]), ("parted", (1, 3), (0, 1)), ("parted", (), (0, 1)), right[0]])
        check_bools(self, lambda value: is_block_paper(Web(FOUR), value), [
            ("block", [("lay", False, 3), ("stretch", 2)], list(range(8)))])

    def test_thirteen_rows(self):
        web = Web(model.ring(14))
        paper = block_paper(web)
        self.assertEqual(len(paper[1]), 12)
        for row in (("stretch", 0), None):
            self.assertIs(is_block_paper(web, ("block", paper[1] + [row], paper[2])), False)
            self.assertIs(is_block_paper(web, ("block", paper[1] + [row], paper[2] + [28, 29])), False)

    def test_any_values(self):
        for turn in (FOUR, CHAIN):
            check_bools(self, lambda value: is_block_paper(Web(turn), value), KINDS + [
                ("block",), ("parted",), ("block", [], []), ("block", None, None), ("parted", None, None),
                ("parted", (), ()), ("block", {}, {}), ("block", "", ""), "block", ["block", [], []]])

    def test_other_lists_of_one_block(self):
        web = Web(FOUR)
        for rows in ([("lay", 0, 3), ("stretch", 2)], [("stretch", 0), ("lay", 0, 3)], [("stretch", 1)] * 2):
            built = build(rows)
            for darts in model.carryings(built.turn(), FOUR):
                self.assertIs(is_block_paper(web, ("block", rows, darts)), True)
                self.assertIs(is_block_paper(web, ("block", tuple(rows), tuple(darts))), True)

    def test_not_charts(self):
        no_charts = [((), "NotChart", {})] + [
            (Web(turn), "NotChart", {}) for turn in ((), (0, 1), (1, 0), (2, 1, 3, 0), model.star(4), model.star(14))]
        wrong = webs_and(*no_charts[1:])
        check_wrong(self, block_paper, {"web": Web(FOUR)}, {"web": wrong})
        check_wrong(self, is_block_paper, {"web": Web(FOUR), "value": ("block", [], [])}, {"web": wrong})

    def test_no_error_for_a_chart_that_is_parted(self):
        self.assertEqual(block_paper(Web(CHAIN))[:2], ("parted", (0, 6, 4, 2)))

    def test_new_each_time(self):
        for turn in (FOUR, TWO, CHAIN):
            web = Web(turn)
            paper = block_paper(web)
            if paper[0] == "block":
                paper[1].append(None)
                paper[2].reverse()
            self.assertIs(is_block_paper(web, block_paper(web)), True)
        value = ("block", [("lay", 0, 3), ("stretch", 2)], list(range(8)))
        is_block_paper(Web(FOUR), value)
        self.assertEqual(value, ("block", [("lay", 0, 3), ("stretch", 2)], list(range(8))))


if __name__ == "__main__":
    unittest.main()

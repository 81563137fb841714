"""Lot papers and decisions: [4b2], [4b3], [4b4], and the guarantee ONE of [4]."""

import unittest
from random import Random

import lot_model
import model
from neverfewer.deeds import deeds_done
from neverfewer.flypes import little_flypes
from neverfewer.lots import lot
from neverfewer.names import are_alike, carryings
from neverfewer.papers import decision, is_decision, is_lot_paper, lot_paper
from neverfewer.plain import are_one, plain
from neverfewer.turns import turned
from neverfewer.webs import Web, behind
from wrong import KINDS, NO_LISTS, check_bools, check_raised, check_wrong, webs_and
from wrong import plain as plain_errors
from test_deeds import NO_DEEDS
from test_gathered import BASE, GATHERED, ODD, SCATTERED, TRIANGLES
from test_lots import APART, FORTY, MANY, NEAR, WRONG_LIMITS
from test_parts import NOT_BLOCK
from test_plain import wandered

BLOCKS = model.blocks_up_to(6)[::2] + model.block_names(7)[::4] + [NEAR, APART, BASE, TRIANGLES, (3, 2, 1, 0)]
RING, BUNCH = model.ring(3), model.bunch(3)


def changes(value, luck):
    """Values that are like this one, but for one thing in it."""
    if isinstance(value, (list, tuple)):
        kind = type(value)
        for at in range(len(value)):
            yield value[:at] + value[at + 1:]
            yield value[:at] + value[at:at + 1] + value[at:]
            if at:
                yield value[:at - 1] + kind([value[at], value[at - 1]]) + value[at + 1:]
        for at in luck.sample(range(len(value)), min(3, len(value))):
            for other in changes(value[at], luck):
                yield value[:at] + kind([other]) + value[at + 1:]
        yield list(value) if kind is tuple else tuple(value)
    elif type(value) is int:
        yield from (value + 1, value - 1, value ^ 1, -value - 1, 10 ** 20, bool(value % 2), str(value), None, [value])
    else:
        yield from (value.upper(), value + " ", None, value.encode(), [value], 0, "one", "two", "lot")


class LotPapers(unittest.TestCase):

    def test_told_papers(self):
        for turn in BLOCKS + GATHERED[:4]:
            web = Web(turn)
            paper = lot_paper(web, 40)
            self.assertEqual([type(paper), len(paper), paper[0], type(paper[1]), type(paper[2])],
                             [tuple, 3, "lot", list, list])
            self.assertTrue(all(type(one) is tuple for one in paper[1]))
            self.assertTrue(all(type(row) is list and all(type(step) is tuple for step in row) for row in paper[2]))
            self.assertTrue(lot_model.is_lot_paper(turn, paper))
            self.assertIs(is_lot_paper(web, paper), True)
            self.assertEqual(sorted(map(model.name, paper[1])), lot(web, 40))

    def test_lists_or_tuples(self):
        for turn in BLOCKS[::5] + [NEAR]:
            word, members, steps = lot_paper(Web(turn), 40)
            for value in [(word, tuple(members), steps), (word, members, tuple(map(tuple, steps))),
                          (word, tuple(members), tuple(steps)), (word, members, [tuple(steps[0])] + steps[1:])]:
                self.assertIs(is_lot_paper(web=Web(turn), value=value), True)
            for value in [[word, members, steps], (word, [list(one) for one in members], steps),
                          (word, members, [[list(step) for step in row] for row in steps])]:
                self.assertIs(is_lot_paper(Web(turn), value), False)

    def test_other_members_of_the_lot(self):
        # Members may be any blocks of these names, the first one but for that it is the block itself.
        for turn in (NEAR, APART, BASE, TRIANGLES):
            members = [turn] + [model.scrambled(name, 5) for name in lot(Web(turn), 40) if name != model.name(turn)]
            steps = []
            for one in members:
                row = []
                for made in lot_model.made_by_deeds(one):
                    at, = [at for at, other in enumerate(members) if model.name(other) == model.name(made)]
                    row.append((at, model.carryings(made, members[at])[-1][0]))
                steps.append(row)
            self.assertIs(is_lot_paper(Web(turn), ("lot", members, steps)), True)
            self.assertTrue(lot_model.is_lot_paper(turn, ("lot", members, steps)))
            other = model.scrambled(turn, 8)
            self.assertIs(is_lot_paper(Web(other), ("lot", members, steps)), other == turn)

    def test_each_carrying(self):
        for turn in (RING, BUNCH, NEAR, model.ring(5)):
            web = Web(turn)
            word, members, steps = lot_paper(web, 40)
            made = lot_model.made_by_deeds(turn)[-1]
            at = steps[0][-1][0]
            for dart in range(-1, len(turn) + 1):
                value = (word, members, [steps[0][:-1] + [(at, dart)]] + steps[1:])
                told = dart in {row[0] for row in model.carryings(made, members[at])}
                self.assertIs(is_lot_paper(web, value), told)

    def test_one_thing_changed(self):
        kinds = [0, 0]
        for seed, turn in enumerate([RING, BUNCH, NEAR, BASE, TRIANGLES, model.block_names(6)[3]]):
            for value in changes(lot_paper(Web(turn), 40), Random(seed)):
                told = lot_model.is_lot_paper(turn, value)
                self.assertIs(is_lot_paper(Web(turn), value), told, value)
                kinds[told] += 1
        self.assertGreater(min(kinds), 3)

    def test_each_but_the_first_is_told_ahead(self):
        turn = [one for one in BLOCKS + GATHERED if len(lot(Web(one), 40)) > 2][0]
        word, members, steps = lot_paper(Web(turn), 40)
        many, seen = len(members), [0, 0]
        for seed in range(40):
            order = [0] + Random(seed).sample(range(1, many), many - 1)
            moved = [[(order.index(at), dart) for at, dart in steps[old]] for old in order]
            value = (word, [members[old] for old in order], moved)
            told = lot_model.is_lot_paper(turn, value)
            self.assertIs(is_lot_paper(Web(turn), value), told)
            seen[told] += 1
        self.assertGreater(seen[True], 0)

    def test_a_lot_that_is_not_closed_or_that_is_not_its_own(self):
        word, members, steps = lot_paper(Web(NEAR), 2)
        self.assertIs(is_lot_paper(Web(NEAR), (word, members[:1], steps[:1])), False)
        self.assertIs(is_lot_paper(Web(NEAR), (word, members + [RING], steps + [[(2, 0)]])), False)
        ring = lot_paper(Web(RING), 1)
        both = ("lot", [NEAR] + members[1:] + [RING], steps + [[(2, ring[2][0][0][1])]])
        self.assertEqual([is_lot_paper(Web(NEAR), both), lot_model.is_lot_paper(NEAR, both)], [False, False])
        for other in (APART, model.scrambled(NEAR, 1), RING):
            self.assertIs(is_lot_paper(Web(other), (word, members, steps)), other == NEAR)

    def test_just_at_the_limit(self):
        for turn, many in ((NEAR, 2), (FORTY, 40), (RING, 1), (TRIANGLES, 2)):
            self.assertIs(is_lot_paper(Web(turn), lot_paper(web=Web(turn), limit=many)), True)
            if many > 1:
                told = ("TooMany", {"what": "charts", "limit": many - 1})
                check_raised(self, told, lot_paper, Web(turn), many - 1)
        check_raised(self, ("TooMany", {"what": "charts", "limit": 40}), lot_paper, Web(MANY), 40)

    def test_any_value(self):
        ring = lot_paper(Web(RING), 1)
        check_bools(self, lambda value: is_lot_paper(Web(RING), value), KINDS + [
            ("lot",), ("lot", [], []), ("lot", [RING]), ("lot", [RING], [[]]), ("lot", [RING], [[(0, 6)]]),
            ("lot", [RING], [[(0, True)]]), ("lot", [RING], [[(False, 0)]]), ("lot", [RING], [[(0, -1)]]),
            ("lot", [RING], [[(1, 0)]]), ("lot", [RING], [[(-1, 0)]]), ("lot", [RING], [[[0, 0]]]),
            ("lot", [RING], [(0, 0)]), ("lot", RING, [[(0, 0)]]), ("lot", [RING], [[(0, 0), (0, 0)]]),
            ("lot", [RING, RING], [[(0, 0)], [(0, 0)]]), ("lot", [RING, RING], [[(1, 0)], [(0, 0)]]),
            ("lot", [RING], [[(0, 0, 0)]]), ("lot", [RING], [[(0,)]]), ("lot", [RING], [[None]]), ("lot", [RING], None),
            ("lot", None, [[(0, 0)]]), ("lot", [None], [[(0, 0)]]), ("lot", [()], [[(0, 0)]]), ("lot", [(1, 0)], [[(0, 0)]]),
            ("lot", [(True, False)], [[(0, 0)]]), ("lot", [RING], [[(0, 0)], []]), ("lot", [RING], {0: [(0, 0)]}),
            ("lot", {RING: 0}, [[(0, 0)]]), ("lot", [RING], [{(0, 0)}]), ("lot", [RING], "a"), ("lot", "a", "a"),
            ("lot", [RING], [[(0, 0)]], 0), ("Lot", [RING], [[(0, 0)]]), ("two", ring), list(ring), ("lot", ring), RING,
            ("lot", [Web(RING)], [[(0, 0)]]), ("lot", [RING], [[(0, "0")]]), ("lot", [RING], [[(0, 10 ** 29)]]),
            ("lot", [(2, 4, 0, 5, True, 3)], [[(0, 0)]]), ("lot", [RING[:5]], [[(0, 0)]]), (["lot"], [RING], [[(0, 0)]])])
        for dart in range(6):
            self.assertIs(is_lot_paper(Web(RING), ("lot", [RING], [[(0, dart)]])), True)

    def test_wrong_values(self):
        wrong = {"web": webs_and(*NOT_BLOCK), "limit": plain_errors(WRONG_LIMITS, "InvalidLimit")}
        with self.assertRaises(AssertionError):
            check_raised(self, ("InvalidLimit", {"value": 2}), lot_paper, Web(NEAR), 2)
        check_wrong(self, lot_paper, {"web": Web(RING), "limit": 2}, wrong)
        check_wrong(self, is_lot_paper, {"web": Web(NEAR), "value": None}, {"web": webs_and(*NOT_BLOCK)})
        for value in WRONG_LIMITS:
            check_raised(self, ("InvalidLimit", {"value": value}), lot_paper, Web(MANY), value)

    def test_new_each_time(self):
        for turn in (NEAR, RING, TRIANGLES):
            web = Web(turn)
            paper = lot_paper(web, 40)
            before = repr(paper)
            self.assertIs(is_lot_paper(web, paper), True)
            self.assertEqual(repr(paper), before)
            paper[1].append(None)
            paper[2][0].reverse()
            paper[2].append([])
            self.assertIs(is_lot_paper(web, lot_paper(web, 40)), True)
            self.assertEqual([repr(lot_paper(web, 40)), web.turn()], [before, turn])


class Decisions(unittest.TestCase):

    def check_one(self, turn, other, limit=1):
        told = decision(Web(turn), Web(other), limit)
        self.assertEqual([type(told), len(told), told[0], type(told[1]), type(told[2])], [tuple, 3, "one", list, list])
        self.assertLessEqual(len(told[1]), 200)
        self.assertTrue(lot_model.is_decision(turn, other, told))
        self.assertIs(is_decision(Web(turn), Web(other), told), True)
        self.assertIs(are_one(Web(turn), Web(other)), True)

    def check_two(self, turn, other, limit=40):
        told = decision(Web(turn), Web(other), limit)
        self.assertEqual([type(told), len(told), told[0], type(told[1])], [tuple, 2, "two", tuple])
        self.assertTrue(lot_model.is_decision(turn, other, told))
        self.assertIs(is_decision(Web(turn), Web(other), told), True)
        self.assertIs(are_one(Web(turn), Web(other)), False)

    def test_each_with_each(self):
        turns = [turn for many in range(2, 7) for turn in model.block_names(many)] + [NEAR, APART]
        for one in turns:
            for other in turns[::3]:
                check = self.check_one if model.name(other) in lot_model.lot(model.name(one)) else self.check_two
                check(one, other)

    def test_what_deeds_lead_to(self):
        for seed, turn in enumerate(BLOCKS + SCATTERED + GATHERED + [MANY, FORTY]):
            self.check_one(turn, wandered(turn, seed, 8))
            self.check_one(turn, turn)

    def test_two_of_one_size(self):
        for many, told in ((1, True), (2, False)):
            turn = lot_model.necklace(*[None] * many, ODD, ODD)
            ties = [row for row in model.necklaces(turn)[0] if len(row) == 5][0]
            other = turned(Web(turn), ties, "a").turn()
            (self.check_one if told else self.check_two)(turn, other)

    def test_never_both(self):
        turns = model.block_names(6)[:8] + [NEAR, APART]
        for one in turns:
            paper = ("two", lot_paper(Web(one), 40))
            for other in turns:
                told = decision(Web(one), Web(other), 40)
                same = plain(Web(one)) == plain(Web(other))
                self.assertEqual(told[0] == "one", same)
                self.assertIs(is_decision(Web(one), Web(other), paper), not same)
                for row in ([], [("behind",)]):
                    last = deeds_done(Web(one), row)[-1]
                    for darts in carryings(last, Web(other)) + [list(range(12))]:
                        value = ("one", row, darts)
                        is_one = model.is_carrying(last.turn(), other, darts)
                        self.assertIs(is_decision(Web(one), Web(other), value), is_one)

    def test_just_at_the_limit(self):
        for turn, many in ((NEAR, 2), (FORTY, 40)):
            other = Web(RING)
            self.assertEqual(decision(web=Web(turn), other=other, limit=many)[0], "two")
            told = ("TooMany", {"what": "charts", "limit": many - 1})
            check_raised(self, told, decision, Web(turn), other, many - 1)
        check_raised(self, ("TooMany", {"what": "charts", "limit": 40}), decision, Web(MANY), Web(RING), 40)
        # The limit is that of the first one's lot, and of no matter if both are ONE.
        self.check_two(RING, MANY, 1)
        self.check_one(MANY, wandered(MANY, 3), 1)

    def test_lists_or_tuples(self):
        good = ("one", [("past", 1, (2, 4))], [0, 1, 5, 4, 3, 2, 6, 7, 9, 8, 10, 11])
        webs = Web(APART), Web(NEAR)
        self.assertIs(is_decision(*webs, good), True)
        for value in [("one", tuple(good[1]), good[2]), ("one", good[1], tuple(good[2]))]:
            self.assertIs(is_decision(web=webs[0], other=webs[1], value=value), True)
        for value in [list(good), ("one", [["past", 1, (2, 4)]], good[2]), ("one", [("past", 1, [2, 4])], good[2])]:
            self.assertIs(is_decision(*webs, value), False)
        paper = lot_paper(Web(RING), 1)
        self.assertIs(is_decision(Web(RING), Web(BUNCH), ("two", paper)), True)
        for value in [["two", paper], ("two", list(paper)), ("two", *paper)]:
            self.assertIs(is_decision(Web(RING), Web(BUNCH), value), False)
        self.assertIs(is_decision(Web(RING), Web(BUNCH), ("two", ("lot", (RING,), (((0, 0),),)))), True)

    def test_two_hundred_deeds(self):
        base, darts = Web(BASE), list(range(12))
        deeds = [("past", 1, (2, 3)), ("past", 1, (2, 3))]
        for many in (198, 200, 202):
            value = ("one", deeds * (many // 2), darts)
            self.assertIs(is_decision(base, base, value), many <= 200)
            self.assertIs(is_decision(base, behind(base), ("one", value[1][:-1] + deeds[:1], darts)), False)
        for many in (199, 201):
            value = ("one", [("behind",)] * many, darts)
            self.assertIs(is_decision(base, behind(base), value), many <= 200)

    def test_one_thing_changed(self):
        kinds = [0, 0]
        pairs = [(NEAR, APART), (BASE, wandered(BASE, 1)), (SCATTERED[0], wandered(SCATTERED[0], 2)), (RING, BUNCH),
                 (NEAR, RING), (BASE, TRIANGLES), (TRIANGLES, model.behind(TRIANGLES))]
        for seed, (one, other) in enumerate(pairs):
            for value in changes(decision(Web(one), Web(other), 40), Random(seed)):
                told = lot_model.is_decision(one, other, value)
                self.assertIs(is_decision(Web(one), Web(other), value), told, value)
                kinds[told] += 1
        self.assertGreater(min(kinds), 3)

    def test_any_value(self):
        good = decision(Web(APART), Web(NEAR), 1)
        for web, other in ((Web(APART), Web(NEAR)), (Web(RING), Web(BUNCH)), (Web(RING), Web(RING))):
            check_bools(self, lambda value: is_decision(web, other, value), KINDS + [
                ("one",), ("two",), ("one", [], []), ("two", None), ("two", []), ("two", ()), ("one", [], None),
                ("one", None, list(range(12))), ("one", [None], list(range(12))), ("One", good[1], good[2]),
                ("one", good[1]), ("one", good[1], good[2], 0), ("two", good), ("one", "", list(range(12))),
                ("two", ("lot", [], [])), ("two", ("lot", [NEAR], [[]])), (None, [], []), (1, [], list(range(6))),
                ("one", {}, list(range(6))), ("one", [], list(range(5)) + [True]), ("one", [], list(range(7))),
                ("one", [], [True, False, 2, 3, 4, 5]), ("one", [], {0: 0}), ("one", [], "012345"), (["one"], [], [])])
        for value in NO_LISTS:
            self.assertIs(is_decision(Web(RING), Web(RING), ("one", value, list(range(6)))), False)
            self.assertIs(is_decision(Web(RING), Web(RING), ("one", [], value)), False)
            self.assertIs(is_decision(Web(RING), Web(BUNCH), ("two", value)), False)
        for value in NO_DEEDS:
            self.assertIs(is_decision(Web(BASE), Web(BASE), ("one", [value], list(range(12)))), False)

    def test_examples_told(self):
        self.assertEqual([decision(Web(one), Web(other), 1)[0] for one, other in (
            (APART, NEAR), (RING, BUNCH), (TRIANGLES, model.behind(TRIANGLES)))], ["one", "two", "one"])
        self.assertEqual([little_flypes(Web(TRIANGLES)), len(lot(Web(TRIANGLES), 40))], [[], 2])
        self.assertIs(are_alike(Web(TRIANGLES), behind(Web(TRIANGLES))), False)

    def test_wrong_values(self):
        good = {"web": Web(NEAR), "other": Web(RING), "limit": 2}
        wrong = {"other": webs_and(*NOT_BLOCK), "limit": plain_errors(WRONG_LIMITS, "InvalidLimit")}
        check_wrong(self, decision, good, {"web": webs_and(), **wrong})
        check_wrong(self, decision, good, {"web": webs_and(*NOT_BLOCK), "limit": wrong["limit"]})
        asked = {"web": Web(NEAR), "other": Web(RING), "value": None}
        check_wrong(self, is_decision, asked, {"web": webs_and(), "other": wrong["other"]})
        check_wrong(self, is_decision, asked, {"web": webs_and(*NOT_BLOCK)})
        for value in (None, 7, (2, 3, 0, 1)):
            check_raised(self, ("InvalidWeb", {"value": value}), decision, Web(()), value, 1)
            check_raised(self, ("InvalidWeb", {"value": value}), is_decision, Web(()), value, None)
        for value in WRONG_LIMITS:
            check_raised(self, ("InvalidLimit", {"value": value}), decision, Web(MANY), Web(RING), value)
            check_raised(self, ("InvalidLimit", {"value": value}), decision, Web(RING), Web(RING), value)

    def test_new_each_time(self):
        for one, other in ((APART, NEAR), (RING, BUNCH)):
            webs = Web(one), Web(other)
            told = decision(*webs, 40)
            before = repr(told)
            self.assertIs(is_decision(*webs, told), True)
            self.assertEqual(repr(told), before)
            (told[1] if told[0] == "one" else told[1][1]).append(None)
            self.assertEqual(repr(decision(*webs, 40)), before)
            self.assertEqual([webs[0].turn(), webs[1].turn()], [one, other])


if __name__ == "__main__":
    unittest.main()

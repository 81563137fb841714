"""Parts, ends, runs, rest, part webs, setting in: [8], [2b1], [2b2], [2b3], [2b5]."""

import unittest

import model
from neverfewer.ears import is_block
from neverfewer.names import are_alike
from neverfewer.parts import ends, is_part, part_web, parts, rest, runs, set_in
from neverfewer.webs import Web, about, behind
from wrong import KINDS, check_bools, check_kept, check_raised, check_wrong, no_counts, plain, webs_and

BLOCKS = model.blocks_in_plenty() + [model.grown(many, seed) for many in (8, 9) for seed in range(4)]
LARGE = [model.grown(many, many, share) for many in range(10, 15) for share in (0.4, 0.6)]
LARGE += [model.ring(14), model.bunch(14)]
NO_BLOCKS = [(), (0, 1), (1, 0), (2, 1, 3, 0), (6, 3, 0, 1, 2, 7, 4, 5), model.star(14)]
NOT_BLOCK = [(Web(turn), "NotBlock", {}) for turn in NO_BLOCKS]
ROWS = (4, 6, 0, 10, 2, 7, 1, 9, 11, 5, 3, 8)
PRISM = model.grown(9, 5)


def wrong_parts(turn):
    """Values that are no parts of the block, ties that look like it among them."""
    told = [list(ties) for ties in model.parts(turn)[:4]] + [ties[::-1] for ties in model.parts(turn) if len(ties) > 1]
    told += [ties[:at] + ties[at - 1:] for ties in model.parts(turn) for at in range(1, len(ties) + 1)]
    ties = tuple(range(len(turn) // 2))
    return [value for value in KINDS if value not in model.parts(turn)] + told + [
        ties, (), (True,), (False,), (-1,), (len(ties),), (10 ** 29,), ("0",), ((0,),), ([0],), (0, 0), (0, None),
        (False, len(ties) - 1), [(0,)], {0}, "0", tuple(map(str, ties))]


class Parts(unittest.TestCase):

    def test_all_of_them(self):
        for turn in BLOCKS:
            self.assertEqual(parts(Web(turn)), model.parts(turn))

    def test_each_ties(self):
        for turn in model.blocks_up_to(6):
            for ties in model.subsets(range(len(turn) // 2)):
                self.assertIs(is_part(Web(turn), ties), model.is_part(turn, ties))
                self.assertIs(is_part(Web(turn), list(ties)), False)

    def test_kinds_of_what_is_told(self):
        for turn in BLOCKS[::7]:
            told = parts(Web(turn))
            self.assertEqual([type(told)] + [type(ties) for ties in told], [list] + [tuple] * len(told))
            self.assertTrue(all(type(tie) is int for ties in told for tie in ties))

    def test_how_many_between_two_places(self):
        for turn in BLOCKS + LARGE:
            web, many = Web(turn), {}
            for ties in parts(web):
                pair = tuple(ends(web, ties))
                many[pair] = many.get(pair, 0) + 1
            for one in web.places():
                for other in web.places():
                    if one < other:
                        common = [face for face in web.faces() if set(face) & set(one) and set(face) & set(other)]
                        count = len(common) * (len(common) - 1)
                        self.assertEqual(many.get((one, other), 0), count)

    def test_large_blocks(self):
        for turn in LARGE:
            web = Web(turn)
            told = parts(web)
            self.assertEqual(told, sorted(set(told)))
            self.assertTrue(all(is_part(web, ties) is True and model.is_part(turn, ties) for ties in told))
            for tie in range(web.many):
                self.assertIn((tie,), told)
                self.assertIn(rest(web, (tie,)), told)

    def test_from_other_sides(self):
        for turn in BLOCKS:
            web = Web(turn)
            self.assertEqual([parts(behind(web)), parts(about(web))], [parts(web), parts(web)])

    def test_any_value(self):
        for turn in (ROWS, (2, 3, 0, 1), PRISM):
            check_bools(self, lambda value: is_part(Web(turn), value), wrong_parts(turn))
            self.assertIs(is_part(web=Web(turn), value=(1,)), True)

    def test_three_rows(self):
        web = Web(ROWS)
        between = [ties for ties in parts(web) if ends(web, ties) == ends(web, (2,))]
        self.assertEqual([len(parts(web)), between],
                         [20, [(0, 1, 3, 4, 5), (0, 2, 3), (0, 3), (1, 2, 4, 5), (1, 4, 5), (2,)]])


class EndsAndRuns(unittest.TestCase):

    def test_all_of_them(self):
        for turn in BLOCKS + LARGE:
            web = Web(turn)
            for ties in parts(web):
                self.assertEqual(ends(web, ties), model.ends(turn, ties))
                self.assertEqual(runs(web, ties), model.runs(turn, ties))
                self.assertEqual(rest(web, ties), model.rest(turn, ties))

    def test_kinds_of_what_is_told(self):
        for turn in BLOCKS[::9]:
            web = Web(turn)
            for ties in parts(web):
                for told in (ends(web, ties), runs(web, ties)):
                    self.assertEqual([type(told), len(told), type(told[0]), type(told[1])], [list, 2, tuple, tuple])
                self.assertIs(type(rest(web, ties)), tuple)

    def test_the_rest_has_the_same_ends(self):
        for turn in BLOCKS:
            web = Web(turn)
            for ties in parts(web):
                others = rest(web, ties)
                self.assertIs(is_part(web, others), True)
                self.assertEqual([ends(web, others), rest(web, others)], [ends(web, ties), ties])
                self.assertEqual(model.tie_places(turn, ties) & model.tie_places(turn, others), set(ends(web, ties)))
                faces = [face for face in web.faces() if 0 < len(model.own(ties, face)) < len(face)]
                self.assertEqual(len(faces), 2)

    def test_runs_stand_together(self):
        for turn in BLOCKS:
            web = Web(turn)
            for ties in parts(web):
                for run in runs(web, ties):
                    self.assertEqual([turn[dart] for dart in run[:-1]], list(run[1:]))
                    self.assertNotIn(turn[run[-1]] // 2, ties)
                    self.assertEqual(sorted(run), sorted(model.own(ties, web.place(run[0]))))

    def test_wrong_values(self):
        for turn in (ROWS, PRISM):
            web, wrong = Web(turn), {"web": webs_and(*NOT_BLOCK), "ties": plain(wrong_parts(turn), "InvalidTies")}
            for call in (ends, runs, rest, part_web):
                check_wrong(self, call, {"web": web, "ties": parts(web)[3]}, wrong)
        for call in (parts,):
            check_wrong(self, call, {"web": Web(ROWS)}, {"web": webs_and(*NOT_BLOCK)})
        check_wrong(self, is_part, {"web": Web(ROWS), "value": 0}, {"web": webs_and(*NOT_BLOCK)})

    def test_new_each_time(self):
        for turn in BLOCKS[::11]:
            check_kept(self, parts, Web(turn))
            for ties in model.parts(turn)[::3]:
                for call in (ends, runs, rest, part_web):
                    check_kept(self, call, Web(turn), ties)


class PartWebs(unittest.TestCase):

    def test_all_of_them(self):
        for turn in BLOCKS + LARGE:
            web = Web(turn)
            for ties in parts(web):
                told = part_web(web, ties)
                self.assertEqual(told.turn(), model.part_web(turn, ties))
                self.assertEqual([told.many, is_block(told)], [len(ties) + 1, True])

    def test_one_tie(self):
        for turn in model.blocks_up_to(4):
            for tie in range(len(turn) // 2):
                self.assertEqual(part_web(Web(turn), (tie,)).turn(), (2, 3, 0, 1))

    def test_set_in_for_the_last_tie_of_the_rest(self):
        kept = turned = 0
        for turn in BLOCKS:
            web = Web(turn)
            for ties in parts(web):
                others = rest(web, ties)
                other = part_web(web, others)
                told = set_in(other, other.many - 1, part_web(web, ties))
                over = Web(model.turned(turn, ties, "c"))
                lesser = web.place(runs(web, ties)[0][0]) == web.place(runs(web, others)[0][0])
                self.assertTrue(are_alike(told, web if lesser else over))
                kept, turned = kept + lesser, turned + (not lesser)
        self.assertGreater(min(kept, turned), 50)


class SetIn(unittest.TestCase):

    def pairs(self):
        small = model.blocks_up_to(4) + [model.grown(5, seed) for seed in range(4)]
        for one in small:
            for other in small:
                for tie in range(len(one) // 2):
                    yield one, tie, other
        for many in range(2, 15):
            yield model.grown(many, 1), many // 2, model.grown(16 - many, 2)

    def test_all_of_them(self):
        for one, tie, other in self.pairs():
            told = set_in(Web(one), tie, Web(other))
            self.assertEqual(told.turn(), model.set_in(one, tie, other))
            self.assertEqual([told.many, is_block(told)], [len(one) // 2 + len(other) // 2 - 2, True])

    def test_the_other_is_a_part(self):
        for one, tie, other in self.pairs():
            told = set_in(Web(one), tie, Web(other))
            come = tuple(range(len(one) // 2 - 1, told.many))
            self.assertIs(is_part(told, come), len(come) < told.many)

    def test_the_ring_of_two_ties_exchanges_nothing_else(self):
        for turn in model.blocks_up_to(5):
            last = len(turn) // 2 - 1
            told = set_in(Web(turn), last, Web((2, 3, 0, 1)))
            self.assertTrue(are_alike(told, Web(turn)))

    def test_set_into_itself(self):
        web = Web(model.grown(6, 2))
        for tie in range(6):
            self.assertEqual(set_in(web, tie, web).turn(), model.set_in(web.turn(), tie, web.turn()))
        self.assertEqual(web.turn(), model.grown(6, 2))

    def test_fourteen_ties_and_fifteen(self):
        eight, nine, full, two = (Web(model.grown(many, 1)) for many in (8, 9, 14, 2))
        self.assertEqual([set_in(eight, 7, eight).many, set_in(full, 3, two).many, set_in(two, 1, full).many],
                         [14, 14, 14])
        three = Web(model.ring(3))
        for one, other in ((eight, nine), (nine, eight), (full, three), (three, full), (full, full)):
            check_raised(self, ("TooMany", {"what": "ties", "limit": 14}), set_in, one, 0, other)
            check_raised(self, ("InvalidTie", {"value": True}), set_in, one, True, other)

    def test_wrong_values(self):
        wrong = {"web": webs_and(*NOT_BLOCK), "tie": plain(no_counts(5), "InvalidTie"), "other": webs_and(*NOT_BLOCK)}
        check_wrong(self, set_in, {"web": Web(model.grown(5, 2)), "tie": 4, "other": Web(PRISM)}, wrong)
        check_kept(self, set_in, Web(PRISM), 3, Web(model.grown(4, 4)))


if __name__ == "__main__":
    unittest.main()

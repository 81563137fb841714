"""Blocks of a web, the places that part it, the tree of blocks, webs joined: [7], [2a1], [2a2], [2a3]."""

import unittest

import model
from neverfewer.blocks import block_tree, block_web, blocks, joined, parting_places
from neverfewer.ears import is_block
from neverfewer.names import are_alike
from neverfewer.webs import Web, about, behind, is_bridge, is_chart, is_loop
from wrong import KINDS, check_kept, check_raised, check_wrong, no_counts, plain, webs_and

TWO = (2, 3, 0, 1)


def strung(seed):
    """A web of several blocks, loops and bridges among them, and the blocks that it was made of."""
    parts = [model.grown(4, seed), (0, 1), (1, 0), model.grown(3 + seed % 3, seed + 1), (0, 1)]
    turn, made, first = (), [], 0
    for at, part in enumerate(parts):
        corner = (7 * seed + 3 * at) % max(1, len(turn))
        turn = model.joined(turn, corner, part, (seed + at) % len(part))
        made.append(tuple(range(first, first + len(part) // 2)))
        first += len(part) // 2
    return turn, sorted(made)


WEBS = model.webs_up_to(5)
LARGE = [strung(seed) for seed in range(24)] + [
    (model.grown(many, many), [tuple(range(many))]) for many in range(6, 15)] + [
    (model.star(14), [(tie,) for tie in range(14)]), (model.about(model.star(14)), [(tie,) for tie in range(14)])]


class Blocks(unittest.TestCase):

    def test_by_rings(self):
        for turn in WEBS:
            self.assertEqual(blocks(Web(turn)), model.blocks(turn))

    def test_webs_of_several_blocks(self):
        for turn, made in LARGE:
            self.assertEqual(blocks(Web(turn)), made)

    def test_kinds_of_what_is_told(self):
        for turn, made in LARGE:
            self.assertEqual([type(blocks(Web(turn)))] + [type(one) for one in blocks(Web(turn))],
                             [list] + [tuple] * len(made))

    def test_each_tie_in_one(self):
        for turn in WEBS:
            web = Web(turn)
            told = blocks(web)
            self.assertEqual(sorted(sum(told, ())), list(range(web.many)))
            for tie in range(web.many):
                if is_loop(web, tie) or is_bridge(web, tie):
                    self.assertIn((tie,), told)
            for one in told:
                for other in told:
                    if one != other:
                        self.assertLessEqual(len(model.tie_places(turn, one) & model.tie_places(turn, other)), 1)

    def test_charts_by_their_blocks(self):
        for turn in WEBS + [turn for turn, made in LARGE]:
            told = blocks(Web(turn))
            self.assertIs(is_chart(Web(turn)), bool(told) and all(len(one) >= 2 for one in told))

    def test_from_other_sides(self):
        for turn in WEBS + [turn for turn, made in LARGE]:
            web = Web(turn)
            self.assertEqual([blocks(behind(web)), blocks(about(web))], [blocks(web), blocks(web)])

    def test_no_ties_and_one(self):
        told = [blocks(Web(turn)) for turn in ((), (0, 1), (1, 0))]
        self.assertEqual(told, [[], [(0,)], [(0,)]])
        told = [parting_places(Web(turn)) for turn in ((), (0, 1), (1, 0))]
        self.assertEqual(told, [[], [], []])

    def test_new_each_time(self):
        for turn, made in LARGE[::5]:
            for call in (blocks, parting_places, block_tree):
                check_kept(self, call, Web(turn))
            check_kept(self, block_web, Web(turn), made[0])

    def test_wrong_values(self):
        for call in (blocks, parting_places, block_tree):
            check_wrong(self, call, {"web": Web(TWO)}, {"web": webs_and()})


class PartingPlaces(unittest.TestCase):

    def test_by_shares_of_the_ties(self):
        for turn in WEBS:
            self.assertEqual(parting_places(Web(turn)), model.parting(turn))

    def test_just_where_two_blocks_stand(self):
        for turn in WEBS + [turn for turn, made in LARGE]:
            web = Web(turn)
            told = [place for place in web.places()
                    if len([one for one in blocks(web) if any(dart // 2 in one for dart in place)]) >= 2]
            self.assertEqual(parting_places(web), told)
            self.assertIs(type(parting_places(web)), list)

    def test_the_tree(self):
        for turn in WEBS + [turn for turn, made in LARGE]:
            web = Web(turn)
            pairs, places, told = block_tree(web), parting_places(web), blocks(web)
            self.assertEqual(pairs, [
                (place, at) for place in places for at, one in enumerate(told)
                if any(dart // 2 in one for dart in place)])
            self.assertEqual([type(pairs)] + [type(pair) for pair in pairs], [list] + [tuple] * len(pairs))
            if web.many == 0:
                self.assertEqual(pairs, [])
                continue
            self.assertEqual(len(pairs), len(places) + len(told) - 1)
            seen = {0}
            for _ in told:
                near = {place for place, at in pairs if at in seen}
                seen |= {at for place, at in pairs if place in near}
            self.assertEqual(seen, set(range(len(told))))


class BlockWebs(unittest.TestCase):

    def test_each_block(self):
        for turn in WEBS + [turn for turn, made in LARGE]:
            web = Web(turn)
            for ties in blocks(web):
                told = block_web(web, ties)
                self.assertEqual(told.turn(), model.block_web(turn, ties))
                self.assertEqual(told.many, len(ties))
                if len(ties) >= 2:
                    self.assertIs(is_block(told), True)

    def test_wrong_values(self):
        turn, made = strung(3)
        wrong = [value for value in KINDS if value not in made] + [list(made[0]), made[0] + made[1], made[0][:2], (),
                 made[0][::-1], tuple(range(len(turn) // 2)), [made[0]], tuple(map(str, made[0]))]
        wrong += [(True,), (False,), (False,) + made[0][1:], made[0][:1] + (True,) + made[0][2:]]
        check_wrong(self, block_web, {"web": Web(turn), "ties": made[0]}, {
            "web": webs_and(), "ties": plain(wrong, "InvalidTies")})
        bridges = Web(model.star(2))
        self.assertEqual(block_web(bridges, (1,)).turn(), (0, 1))
        check_wrong(self, block_web, {"web": bridges, "ties": (1,)}, {
            "ties": plain([(True,), (False,), [1], 1, (0, 1), (2,), (-1,), None], "InvalidTies")})
        for value in KINDS:
            check_raised(self, ("InvalidTies", {"value": value}), block_web, Web(()), value)


class Joined(unittest.TestCase):

    def pairs(self):
        small = [turn for many in range(4) for turn in model.names(many)]
        for one in small:
            for other in small:
                if len(one) + len(other) <= 8:
                    for corner in model.corners(one):
                        for its in model.corners(other):
                            yield one, corner, other, its
        for seed in range(20):
            one, other = model.grown(2 + seed % 6, seed), model.grown(2 + seed % 7, seed + 1)
            yield one, (5 * seed) % len(one), other, (3 * seed) % len(other)

    def test_joined(self):
        for one, corner, other, its in self.pairs():
            told = joined(Web(one), corner, Web(other), its)
            self.assertEqual(told.turn(), model.joined(one, corner, other, its))

    def test_the_blocks_are_those_of_both(self):
        for one, corner, other, its in self.pairs():
            shift = len(one) // 2
            told = joined(Web(one), corner, Web(other), its)
            moved = [tuple(tie + shift for tie in ties) for ties in model.blocks(other)]
            self.assertEqual(blocks(told), model.blocks(one) + moved)
            for ties in model.blocks(other):
                there = tuple(tie + shift for tie in ties)
                self.assertTrue(are_alike(block_web(told, there), Web(model.block_web(other, ties))))
            lone = any(len(ties) == 1 for ties in model.blocks(one) + model.blocks(other))
            self.assertIs(is_chart(told), told.many > 0 and not lone)

    def test_where_the_darts_stand(self):
        for one, corner, other, its in self.pairs():
            if one and other:
                told, shift = joined(Web(one), corner, Web(other), its).turn(), len(one)
                self.assertEqual([told[corner], told[shift + its]], [shift + other[its], one[corner]])

    def test_joined_to_itself(self):
        for turn in model.webs_up_to(3) + [model.grown(7, 2)]:
            web = Web(turn)
            told = joined(web, 0, web, 0)
            self.assertEqual([told.many, told.turn()], [2 * web.many, model.joined(turn, 0, turn, 0)])
            self.assertEqual(web.turn(), turn)

    def test_without_ties(self):
        for turn in model.webs_up_to(3):
            for its in model.corners(turn):
                self.assertEqual(joined(Web(()), 0, Web(turn), its), Web(turn))
                self.assertEqual(joined(web=Web(turn), corner=its, other=Web(()), its=0), Web(turn))

    def test_fourteen_ties_and_fifteen(self):
        seven, eight, full = Web(model.grown(7, 1)), Web(model.grown(8, 1)), Web(model.ring(14))
        self.assertEqual([joined(seven, 13, seven, 0).many, joined(full, 0, Web(()), 0).many,
                          joined(Web(()), 0, full, 27).many, joined(Web(model.ring(13)), 0, Web((0, 1)), 1).many],
                         [14, 14, 14, 14])
        for one, other in ((seven, eight), (eight, seven), (full, Web((1, 0))), (Web((0, 1)), full), (full, full)):
            check_raised(self, ("TooMany", {"what": "ties", "limit": 14}), joined, one, 0, other, 0)
            check_raised(self, ("InvalidCorner", {"value": -1}), joined, one, 0, other, -1)

    def test_wrong_values(self):
        check_wrong(self, joined, {"web": Web(model.grown(5, 1)), "corner": 9, "other": Web(TWO), "its": 3}, {
            "web": webs_and(), "corner": plain(no_counts(10), "InvalidCorner"),
            "other": webs_and(), "its": plain(no_counts(4), "InvalidCorner")})
        check_wrong(self, joined, {"web": Web(()), "corner": 0, "other": Web(()), "its": 0}, {
            "web": webs_and(), "corner": plain(no_counts(1), "InvalidCorner"),
            "other": webs_and(), "its": plain(no_counts(1), "InvalidCorner")})
        check_kept(self, joined, Web(TWO), 1, Web(TWO), 2)


if __name__ == "__main__":
    unittest.main()

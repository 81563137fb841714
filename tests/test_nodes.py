"""Strong parts, nodes, skeletons: [3a1], [3a2], [3a3]."""

import unittest

import model
from neverfewer.ears import is_block
from neverfewer.names import are_alike
from neverfewer.necklaces import bunches, necklaces
from neverfewer.nodes import nodes, skeleton, strong
from neverfewer.parts import part_web, parts, rest, set_in
from neverfewer.webs import Web, about, behind
from wrong import KINDS, check_kept, check_raised, check_wrong, plain, webs_and
from test_parts import NOT_BLOCK

PAIRS = (11, 2, 1, 4, 6, 8, 3, 5, 10, 0, 7, 9)
FOUR = (2, 11, 4, 7, 0, 9, 1, 8, 3, 12, 5, 13, 10, 6)
TRIANGLES = (18, 2, 14, 4, 16, 0, 11, 19, 7, 17, 9, 13, 5, 6, 1, 8, 3, 10, 12, 15)
SMALL = model.blocks_in_plenty() + [model.grown(many, seed) for many in (8, 9) for seed in range(4)] + [PAIRS, FOUR]
LARGE = [model.grown(many, seed, 0.55) for many in range(10, 15) for seed in range(3)]
LARGE += [model.ring(14), model.bunch(14), TRIANGLES, model.about(TRIANGLES)]


class Strong(unittest.TestCase):

    def test_all_of_them(self):
        for turn in SMALL:
            self.assertEqual(strong(Web(turn)), model.strong(turn))

    def test_large_blocks(self):
        for turn in LARGE:
            web = Web(turn)
            every = parts(web)
            told = [ties for ties in every if 1 < len(ties) < web.many - 1
                    and not any(model.cross(turn, ties, other) for other in every)]
            self.assertEqual(strong(web), told)

    def test_the_rest_is_strong(self):
        for turn in SMALL + LARGE:
            told = strong(Web(turn))
            self.assertEqual(sorted(rest(Web(turn), ties) for ties in told), told)
            for one in told:
                for other in told:
                    sides = [set(one), set(rest(Web(turn), one))]
                    others = [set(other), set(rest(Web(turn), other))]
                    self.assertTrue(any(side <= more for side in sides for more in others))

    def test_none(self):
        for turn in ((2, 3, 0, 1), model.ring(3), model.ring(14), model.bunch(9), TRIANGLES):
            self.assertEqual(strong(Web(turn)), [])


class Nodes(unittest.TestCase):

    def test_all_of_them(self):
        for turn in SMALL:
            self.assertEqual(nodes(Web(turn)), model.nodes(turn))

    def test_kinds_of_what_is_told(self):
        for turn in SMALL[::7] + LARGE:
            told = nodes(Web(turn))
            self.assertIs(type(told), list)
            for node in told:
                self.assertEqual([type(node), len(node), type(node[0]), type(node[1])], [tuple, 2, str, tuple])
                self.assertEqual({type(piece) for piece in node[1]}, {tuple})
                self.assertEqual(node[1], tuple(sorted(node[1])))

    def test_blocks_of_two_ties_have_none(self):
        for turn in ((2, 3, 0, 1), (3, 2, 1, 0)):
            self.assertEqual([nodes(Web(turn)), strong(Web(turn))], [[], []])
        self.assertEqual(len(nodes(Web(model.ring(3)))), 1)

    def test_necklaces_and_bunches_are_nodes(self):
        for turn in SMALL + LARGE:
            web = Web(turn)
            told = nodes(web)
            for kind, call in (("necklace", necklaces), ("bunch", bunches)):
                self.assertEqual([pieces for word, pieces in told if word == kind],
                                 sorted(tuple(sorted(row)) for row in call(web)))

    def test_each_is_a_piece_of_just_one(self):
        for turn in SMALL + LARGE:
            web = Web(turn)
            if web.many > 2:
                told = [piece for kind, pieces in nodes(web) for piece in pieces]
                self.assertEqual(sorted(told), sorted(strong(web) + [(tie,) for tie in range(web.many)]))

    def test_one_tree(self):
        for turn in SMALL + LARGE:
            web = Web(turn)
            told = nodes(web)
            if web.many == 2:
                continue
            pairs = [(ties, rest(web, ties)) for ties in strong(web) if 0 in ties]
            self.assertEqual(len(told), len(pairs) + 1)
            home = {piece: at for at, (kind, pieces) in enumerate(told) for piece in pieces}
            seen = {0}
            for _ in told:
                for one, other in pairs:
                    if home[one] in seen or home[other] in seen:
                        seen |= {home[one], home[other]}
            self.assertEqual(seen, set(range(len(told))))
            for one, other in pairs:
                kinds = [told[home[one]][0], told[home[other]][0]]
                self.assertNotIn(kinds, (["necklace", "necklace"], ["bunch", "bunch"]))

    def test_from_other_sides(self):
        other = {"necklace": "bunch", "bunch": "necklace", "firm": "firm"}
        for turn in SMALL + LARGE:
            web = Web(turn)
            self.assertEqual([strong(about(web)), strong(behind(web))], [strong(web), strong(web)])
            self.assertEqual(nodes(behind(web)), nodes(web))
            self.assertEqual(nodes(about(web)), sorted((other[kind], pieces) for kind, pieces in nodes(web)))

    def test_firm_ones(self):
        self.assertEqual(nodes(Web(TRIANGLES)), [("firm", tuple((tie,) for tie in range(10)))])
        self.assertEqual([kind for kind, pieces in nodes(Web(FOUR))], ["bunch", "firm"])
        self.assertTrue(any(len(pieces) >= 6 for turn in SMALL for kind, pieces in nodes(Web(turn)) if kind == "firm"))

    def test_wrong_values(self):
        for call in (strong, nodes):
            check_wrong(self, call, {"web": Web(PAIRS)}, {"web": webs_and(*NOT_BLOCK)})

    def test_new_each_time(self):
        for turn in SMALL[::9]:
            check_kept(self, strong, Web(turn))
            check_kept(self, nodes, Web(turn))


class Skeletons(unittest.TestCase):

    def test_all_of_them(self):
        for turn in SMALL + LARGE:
            web = Web(turn)
            for kind, pieces in nodes(web):
                told = skeleton(web, pieces)
                self.assertEqual(told.turn(), model.skeleton(turn, pieces))
                self.assertEqual([told.many, is_block(told)], [len(pieces), True])

    def test_of_each_kind(self):
        for turn in SMALL + LARGE:
            web = Web(turn)
            for kind, pieces in nodes(web):
                told = skeleton(web, pieces)
                if kind == "necklace":
                    self.assertTrue(are_alike(told, Web(model.ring(len(pieces)))))
                elif kind == "bunch":
                    self.assertEqual(len(told.places()), 2)
                else:
                    self.assertGreaterEqual(told.many, 6)
                    self.assertEqual({min(len(ties), told.many - len(ties)) for ties in parts(told)}, {1})

    def test_with_its_pieces_set_in(self):
        for turn in SMALL + LARGE:
            web = Web(turn)
            for kind, pieces in nodes(web):
                told = skeleton(web, pieces)
                for at in reversed(range(len(pieces))):
                    told = set_in(told, at, part_web(web, pieces[at]))
                self.assertTrue(are_alike(told, web))

    def test_wrong_pieces(self):
        web = Web(PAIRS)
        right = [pieces for kind, pieces in nodes(web)]
        wrong = list(KINDS)
        for pieces in right:
            wrong += [list(pieces), pieces[::-1], pieces[1:], pieces + ((0,),), tuple(map(list, pieces)),
                      pieces[:1] + pieces[2:] + pieces[1:2], ("bunch", pieces), pieces[0]]
        wrong += [((False,), (True,), (2, 3), (4, 5)), ((0,), (True,), (2, 3), (4, 5)), ((False,), (1,), (2, 3), (4, 5)),
                  tuple((tie,) for tie in range(6)), ((0, 1), (2, 3), (4, 5)), ((0,), (1,), (3, 2), (4, 5)),
                  ((0, 1, 2, 3), (4, 5)), ((0, 1, 2, 3), (4,), (None,)), ((0, 1, 2, 3), (4,), 5), ((10 ** 29,),),
                  ((0, True, 2, 3), (4,), (5,)), ("0",), ((0, 1, 2, 3), (4,), (6,)), ((),)]
        for pieces in right:
            check_wrong(self, skeleton, {"web": web, "pieces": pieces}, {
                "web": webs_and(*NOT_BLOCK), "pieces": plain(wrong, "InvalidPieces")})

    def test_a_block_of_two_ties_has_no_pieces(self):
        for value in ((), ((0,), (1,)), [], None, ((0, 1),)):
            check_raised(self, ("InvalidPieces", {"value": value}), skeleton, Web((2, 3, 0, 1)), value)

    def test_new_each_time(self):
        for kind, pieces in nodes(Web(PAIRS)):
            check_kept(self, skeleton, Web(PAIRS), pieces)


if __name__ == "__main__":
    unittest.main()

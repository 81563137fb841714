"""Parts turned by letters: [8], [2b4], [2b5]."""

import unittest
from itertools import combinations

import model
from neverfewer.ears import is_block
from neverfewer.names import are_alike
from neverfewer.parts import is_part, parts, rest, runs
from neverfewer.turns import turned
from neverfewer.webs import Web, about, behind
from wrong import KINDS, check_kept, check_wrong, plain, webs_and
from test_parts import NOT_BLOCK, PRISM, ROWS, wrong_parts

BLOCKS = model.blocks_in_plenty() + [model.grown(many, many) for many in (8, 9, 11, 14)] + [ROWS]
LETTERS = ("a", "b", "c")


def each():
    for turn in BLOCKS:
        web = Web(turn)
        for ties in parts(web):
            yield turn, web, ties


def trees_many(turn):
    """How many sets of ties, one fewer than the places, lead from each place to each other one."""
    at = {dart: number for number, place in enumerate(model.places(turn)) for dart in place}
    many = len(model.places(turn))
    return len([ties for ties in combinations(range(len(turn) // 2), many - 1) if _leads_everywhere(ties, at, many)])


def _leads_everywhere(ties, at, many):
    group = list(range(many))
    for _ in ties:
        for tie in ties:
            one, other = at[2 * tie], at[2 * tie + 1]
            group[one] = group[other] = min(group[one], group[other])
    return set(group) == {0}


class Turned(unittest.TestCase):

    def test_all_of_them(self):
        for turn, web, ties in each():
            for letter in LETTERS:
                self.assertEqual(turned(web, ties, letter).turn(), model.turned(turn, ties, letter))

    def test_blocks_with_the_same_part(self):
        for turn, web, ties in each():
            others = rest(web, ties)
            for letter in LETTERS:
                told = turned(web, ties, letter)
                self.assertIs(is_block(told), True)
                for part in (ties, others):
                    self.assertIs(is_part(told, part), True)
                    self.assertIn(runs(told, part), (runs(web, part), sorted(run[::-1] for run in runs(web, part))))

    def test_once_more_leads_back(self):
        for turn, web, ties in each():
            for letter in LETTERS:
                self.assertEqual(turned(turned(web, ties, letter), ties, letter), web)

    def test_two_letters_do_what_the_third_does(self):
        for turn, web, ties in each():
            for one in LETTERS:
                for other in LETTERS:
                    if one != other:
                        third, = set(LETTERS) - {one, other}
                        self.assertEqual(turned(turned(web, ties, one), ties, other), turned(web, ties, third))

    def test_the_rest_turned(self):
        for turn, web, ties in each():
            others = rest(web, ties)
            for letter in ("a", "b"):
                self.assertEqual(turned(web, others, letter), behind(turned(web, ties, letter)))
            self.assertEqual(turned(web, others, "c"), turned(web, ties, "c"))

    def test_and_all_turned_about(self):
        for turn, web, ties in each():
            self.assertEqual(about(turned(web, ties, "c")), turned(about(web), ties, "c"))
            for one, other in (("a", "b"), ("b", "a")):
                self.assertTrue(are_alike(about(turned(web, ties, one)), turned(about(web), ties, other)))

    def test_rings_places_faces_trees(self):
        for turn in model.blocks_up_to(5) + model.block_names(6)[::4]:
            web, circles, trees = Web(turn), model.rings(turn), trees_many(turn)
            for ties in parts(web):
                for letter in LETTERS:
                    told = turned(web, ties, letter)
                    self.assertEqual(model.rings(told.turn()), circles)
                    self.assertEqual(trees_many(told.turn()), trees)
                    self.assertEqual([len(told.places()), len(told.faces())], [len(web.places()), len(web.faces())])

    def test_the_parts_need_not_stay(self):
        self.assertTrue(any(parts(turned(web, ties, "c")) != parts(web) for turn, web, ties in each()))

    def test_one_tie(self):
        for turn in BLOCKS:
            web = Web(turn)
            for tie in range(web.many):
                other = [dart ^ (dart // 2 == tie) for dart in range(len(turn))]
                self.assertEqual(turned(web, (tie,), "a"), web)
                for letter in ("b", "c"):
                    self.assertEqual(turned(web, (tie,), letter).turn(), model.called(turn, other))

    def test_a_row_by_b_the_other_way_round(self):
        web = Web(ROWS)
        told = turned(web, (1, 4, 5), "b")
        self.assertEqual(told.turn(), (4, 6, 5, 10, 9, 7, 1, 2, 11, 0, 3, 8))
        self.assertEqual([told.place(9), told.place(2)], [(0, 4, 9), (2, 5, 7)])

    def test_wrong_values(self):
        letters = KINDS + ["A", "B", "d", "ab", "abc", "a ", b"a", b"c", ["a"], ("a",), ("b", "c"), 97]
        for turn in (ROWS, PRISM):
            check_wrong(self, turned, {"web": Web(turn), "ties": model.parts(turn)[2], "letter": "b"}, {
                "web": webs_and(*NOT_BLOCK), "ties": plain(wrong_parts(turn), "InvalidTies"),
                "letter": plain(letters, "InvalidLetter")})

    def test_new_each_time(self):
        for letter in LETTERS:
            web = Web(PRISM)
            check_kept(self, turned, web, parts(web)[5], letter)
            self.assertEqual(web.turn(), PRISM)


if __name__ == "__main__":
    unittest.main()

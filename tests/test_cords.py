"""Cords, directions, and the ends by which ties are entered: [11], [5b1], [5b2], [5b5]."""

import unittest

import cord_model
import model
from neverfewer.cords import cords, entered, is_directions
from neverfewer.flypes import flyped, flypes
from neverfewer.moves import moved
from neverfewer.parts import parts
from neverfewer.turns import turned
from neverfewer.webs import Web, about, behind
from wrong import KINDS, check_bools, check_kept, check_raised, check_wrong, no_counts, plain, webs_and
from test_drawings import THREE, made

WEBS = model.webs_up_to(4) + [model.scrambled(turn, seed) for seed, turn in enumerate(model.names(5)[::7])]
LARGE = [model.grown(many, many) for many in range(6, 15)] + [model.ring(14), model.bunch(13), model.star(14)]
TWO, BARE = (2, 3, 0, 1), (2, 1, 3, 0)


def wrong_directions(turn):
    """Values that are no directions of the web, those of fewer or more cords among them."""
    many = len(cord_model.cords(turn))
    good = [(0,) * many, (1,) * many]
    return [value for value in KINDS if value not in good] + [
        list(good[0]), (0,) * (many + 1), (1,) * (many - 1), (True,) + good[0][1:], (False,) + good[0][1:],
        good[1][1:] + (2,), (-1,) + good[0][1:], ("0",) + good[0][1:], good[0][:-1] + (None,), "0" * many,
        ((0,),) * many, (10 ** 29,) * many, dict.fromkeys(range(many), 0)]


class Cords(unittest.TestCase):

    def test_all_of_them(self):
        for turn in WEBS + LARGE:
            told = cords(Web(turn))
            self.assertEqual(told, cord_model.cords(turn))
            self.assertEqual([type(told)] + [type(cord) for cord in told], [list] + [tuple] * len(told))
            self.assertTrue(all(type(end) is int for cord in told for end in cord))

    def test_told_from_the_least_end_on(self):
        for turn in WEBS + LARGE:
            for cord in cords(Web(turn)):
                if cord:
                    self.assertEqual(cord[0], min(cord + tuple(end ^ 2 for end in cord)))
                    self.assertEqual(cord_model.way_from(turn, cord[0]), cord)

    def test_at_each_tie_twice(self):
        for turn in WEBS + LARGE:
            told = cords(Web(turn))
            self.assertEqual(sum(map(len, told)), len(turn))
            for tie in range(len(turn) // 2):
                ends = [end for cord in told for end in cord if end // 4 == tie]
                self.assertEqual(sorted(end % 2 for end in ends), [0, 1])
            for cord in told:
                self.assertTrue(all((end + cord[at - 1]) % 2 == 1 for at, end in enumerate(cord)))

    def test_from_behind_and_turned_about(self):
        for turn in WEBS + LARGE:
            web = Web(turn)
            there = sorted(cord_model.told_cord([end ^ 1 for end in cord]) if cord else () for cord in cords(web))
            self.assertEqual(cords(behind(web)), there)
            round_about = [[end if end % 2 else end ^ 2 for end in cord] for cord in cords(web)]
            self.assertEqual(cords(about(web)), sorted(cord_model.told_cord(cord) if cord else () for cord in round_about))

    def test_as_many_as_even_sets_that_cut(self):
        for turn in WEBS[::3] + [model.grown(6, 1), model.ring(6), model.bunch(6)]:
            ties = [row for row in model.subsets(range(len(turn) // 2))
                    if cord_model.is_even(turn, row) and cord_model.is_cut(turn, row)]
            self.assertEqual(len(ties), 2 ** (len(cords(Web(turn))) - 1))

    def test_kept_by_moves_turns_and_flypes(self):
        for seed, turn in enumerate(WEBS[::2]):
            drawing = (turn, cord_model.some_marks(turn, seed))
            for move in cord_model.moves_in_plenty(drawing, seed):
                if cord_model.can_be_done(drawing, move):
                    self.assertEqual(len(cords(moved(made(drawing), move).web())), len(cords(Web(turn))))
        for turn in [model.grown(many, 1) for many in (6, 8, 10, 12)] + model.block_names(6)[::3]:
            web = Web(turn)
            for ties in parts(web)[::3]:
                for letter in "abc":
                    self.assertEqual(len(cords(turned(web, ties, letter))), len(cords(web)))
            for tie, ties in flypes(web)[::2]:
                self.assertEqual(len(cords(flyped(web, tie, ties))), len(cords(web)))

    def test_no_ties_and_one(self):
        self.assertEqual([cords(Web(())), cords(Web((0, 1))), cords(Web((1, 0)))], [[()], [(0, 3)], [(0, 1)]])

    def test_wrong_values(self):
        check_wrong(self, cords, {"web": Web(THREE)}, {"web": webs_and()})
        for turn in (THREE, TWO, ()):
            check_kept(self, cords, Web(turn))


class Directions(unittest.TestCase):

    def test_all_of_them(self):
        for turn in WEBS[::2] + [TWO, BARE, THREE]:
            for ways in cord_model.all_directions(turn):
                self.assertIs(is_directions(Web(turn), ways), True)
                self.assertIs(is_directions(web=Web(turn), value=ways), True)
                self.assertIs(is_directions(Web(turn), list(ways)), False)

    def test_any_value(self):
        for turn in (THREE, TWO, BARE, (), model.ring(6)):
            check_bools(self, lambda value: is_directions(Web(turn), value), wrong_directions(turn))

    def test_entered(self):
        for turn in WEBS + LARGE:
            for ways in cord_model.all_directions(turn)[:6]:
                for tie in range(len(turn) // 2):
                    told = entered(Web(turn), ways, tie)
                    self.assertEqual(told, cord_model.entered(turn, ways, tie))
                    self.assertEqual([type(told), len(told), type(told[0])], [tuple, 2, int])
                    self.assertEqual(entered(web=Web(turn), directions=ways, tie=tie), told)

    def test_the_other_way_round(self):
        for turn in WEBS[::3]:
            for ways in cord_model.all_directions(turn):
                other = tuple(1 - way for way in ways)
                for tie in range(len(turn) // 2):
                    ends = tuple(sorted(end ^ 2 for end in entered(Web(turn), ways, tie)))
                    self.assertEqual(entered(Web(turn), other, tie), ends)

    def test_the_ring_of_three_ties(self):
        ring = Web(THREE)
        self.assertEqual([cords(ring), entered(ring, (0,), 0), entered(ring, (0,), 1), entered(ring, (0,), 2)],
                         [[(0, 5, 8, 1, 4, 9)], (0, 1), (4, 5), (8, 9)])
        self.assertEqual([cords(Web(TWO)), entered(Web(TWO), (0, 1), 0)], [[(0, 7), (1, 6)], (0, 3)])

    def test_wrong_values(self):
        check_wrong(self, is_directions, {"web": Web(THREE), "value": None}, {"web": webs_and()})
        for turn in (THREE, TWO, model.ring(6)):
            good = {"web": Web(turn), "directions": (0,) * len(cord_model.cords(turn)), "tie": 1}
            check_wrong(self, entered, good, {
                "web": webs_and(), "directions": plain(wrong_directions(turn), "InvalidDirections"),
                "tie": plain(no_counts(len(turn) // 2), "InvalidTie")})
        for value in wrong_directions(()):
            check_raised(self, ("InvalidDirections", {"value": value}), entered, Web(()), value, 0)
        for ways in ((0,), (1,)):
            check_raised(self, ("InvalidTie", {"value": 0}), entered, Web(()), ways, 0)
        check_kept(self, entered, Web(TWO), (0, 1), 1)


if __name__ == "__main__":
    unittest.main()

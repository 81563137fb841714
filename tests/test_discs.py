"""Discs and bands along directed cords: [9a1]."""

import unittest

import cord_model
import group_model
import model
from neverfewer.cords import cords
from neverfewer.discs import discs, genus, kept_ways, length
from neverfewer.webs import Web, about
from wrong import check_kept, check_wrong, plain, webs_and
from test_cords import wrong_directions
from test_drawings import THREE

WEBS = model.webs_up_to(4) + [model.scrambled(turn, seed) for seed, turn in enumerate(model.names(5)[::9])]
WEBS += [model.grown(6, 3), model.ring(7), model.bunch(8), model.grown(9, 1), model.joined(model.ring(3), 1, model.bunch(3), 4)]
LARGE = [model.ring(14), model.bunch(14), model.star(14), model.about(model.star(14)), model.grown(14, 3), model.grown(14, 8, 0.8)]
CALLS = (kept_ways, discs, length, genus)


def each(webs):
    for turn in webs:
        for ways in cord_model.all_directions(turn)[:16]:
            yield turn, ways


class Discs(unittest.TestCase):

    def test_all_of_them(self):
        for turn, ways in each(WEBS):
            kept = group_model.kept_ways(turn, ways)
            many = cord_model.circles(turn, kept)
            told = [call(Web(turn), ways) for call in CALLS]
            long = len(turn) // 2 - many + 1
            self.assertEqual(told, [kept, many, long, (long + 1 - len(cord_model.cords(turn))) // 2])
            self.assertEqual([type(one) for one in told], [tuple, int, int, int])
            self.assertEqual([call(web=Web(turn), directions=ways) for call in CALLS], told)

    def test_the_genus_is_a_count(self):
        for turn, ways in each(WEBS + LARGE):
            self.assertGreaterEqual(genus(Web(turn), ways), 0)
            self.assertEqual(2 * genus(Web(turn), ways), length(Web(turn), ways) + 1 - len(cords(Web(turn))))
            self.assertEqual(length(Web(turn), ways), len(turn) // 2 - discs(Web(turn), ways) + 1)

    def test_round_each_disc_one_way(self):
        for turn, ways in each(WEBS + LARGE):
            if turn:
                kept = kept_ways(Web(turn), ways)
                circles = circles_of(turn, kept)
                come = cord_model.came_in(turn, ways)
                # Gone round a circle, each cord at it is met at one of two ends of a corner in the same sense.
                for circle in circles:
                    self.assertEqual(len({(end in come) == bool(at % 2) for at, end in enumerate(circle)}), 1)
                for tie in range(len(turn) // 2):
                    pairs = ((0, 3), (1, 2)) if tie in kept else ((0, 1), (2, 3))
                    at = [[circle for circle in circles if 4 * tie + pair[0] in circle][0] for pair in pairs]
                    self.assertNotEqual(at[0], at[1])

    def test_all_cords_the_other_way(self):
        for turn, ways in each(WEBS + LARGE):
            other = tuple(1 - way for way in ways)
            self.assertEqual([call(Web(turn), other) for call in CALLS], [call(Web(turn), ways) for call in CALLS])

    def test_turned_about(self):
        for turn, ways in each(WEBS):
            # There each even end e is called e ^ 2, each odd one as it was.
            there = {end ^ 2 if end % 2 == 0 else end for end in cord_model.came_in(turn, ways)}
            other = cord_model.directions_of(model.about(turn), there)
            kept = kept_ways(Web(turn), ways)
            self.assertEqual(kept_ways(about(Web(turn)), other), tuple(
                tie for tie in range(len(turn) // 2) if tie not in kept))
            self.assertEqual(discs(about(Web(turn)), other), discs(Web(turn), ways))

    def test_no_ties(self):
        for ways in ((0,), (1,)):
            self.assertEqual([call(Web(()), ways) for call in CALLS], [(), 1, 0, 0])

    def test_wrong_values(self):
        for call in CALLS:
            for turn in (THREE, (2, 3, 0, 1), ()):
                check_wrong(self, call, {"web": Web(turn), "directions": cord_model.all_directions(turn)[-1]}, {
                    "web": webs_and(), "directions": plain(wrong_directions(turn), "InvalidDirections")})
                check_kept(self, call, Web(turn), cord_model.all_directions(turn)[0])


def circles_of(turn, kept):
    """The ends along each circle, in the sequence in which they are met: by a corner, by a tie, and so on."""
    to, found, left = cord_model.ends_joined(turn), [], set(range(2 * len(turn)))
    while left:
        end, circle = min(left), []
        while end in left:
            far = to[end]
            circle += [end, far]
            left -= {end, far}
            tie, at = divmod(far, 4)
            end = 4 * tie + ((3, 2, 1, 0) if tie in kept else (1, 0, 3, 2))[at]
        found.append(circle)
    return found


if __name__ == "__main__":
    unittest.main()

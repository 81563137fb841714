"""Ties laid, hung, stretched, taken, shrunk: [1b1], [1b2], [1b3]."""

import unittest

import model
from neverfewer.edits import hung, laid, shrunk, stretched, taken
from neverfewer.names import are_alike
from neverfewer.webs import Web, about, is_bridge, is_loop
from wrong import check_kept, check_raised, check_wrong, no_counts, plain, webs_and

WEBS = model.webs_up_to(4) + [model.grown(many, many) for many in range(5, 15)]
WEBS += [model.ring(13), model.bunch(12), model.star(11), model.about(model.star(9))]
FULL = [model.ring(14), model.bunch(14), model.star(14), model.grown(14, 3), model.about(model.star(14))]
TOO_MANY = ("TooMany", {"what": "ties", "limit": 14})


def small():
    return [turn for turn in WEBS if len(turn) < 28]


def facing(turn):
    corners = model.corners(turn)
    return [(one, other) for one in corners for other in corners if model.are_facing(turn, one, other)]


class Added(unittest.TestCase):

    def test_laid(self):
        for turn in small():
            for one, other in facing(turn):
                told = laid(Web(turn), one, other)
                self.assertEqual(told.turn(), model.laid(turn, one, other))

    def test_laid_between_corners_in_unlike_faces(self):
        for turn in WEBS + FULL:
            corners = model.corners(turn)
            unlike = [(one, other) for one in corners for other in corners if not model.are_facing(turn, one, other)]
            for one, other in unlike:
                check_raised(self, ("NotFacing", {}), laid, Web(turn), one, other)

    def test_where_the_darts_stand(self):
        for turn in small():
            new = len(turn)
            for one, other in facing(turn) if turn else []:
                told = laid(Web(turn), one, other).turn()
                if one == other:
                    self.assertEqual([told[one], told[new], told[new + 1]], [new, new + 1, turn[one]])
                else:
                    self.assertEqual([told[one], told[new]], [new, turn[one]])
                    self.assertEqual([told[other], told[new + 1]], [new + 1, turn[other]])

    def test_hung(self):
        for turn in small():
            for corner in model.corners(turn):
                told = hung(Web(turn), corner).turn()
                self.assertEqual(told, model.hung(turn, corner))
                self.assertEqual(told[len(turn) + 1], len(turn) + 1)

    def test_stretched(self):
        for turn in small():
            for tie in range(len(turn) // 2):
                told = stretched(Web(turn), tie)
                self.assertEqual(told.turn(), model.stretched(turn, tie))
                self.assertEqual(told.place(2 * tie + 1), (2 * tie + 1, len(turn)))

    def test_without_ties(self):
        empty = Web(())
        self.assertEqual([laid(empty, 0, 0).turn(), hung(empty, 0).turn()], [(1, 0), (0, 1)])
        for wrong in no_counts(1):
            check_raised(self, ("InvalidCorner", {"value": wrong}), laid, empty, wrong, 0)
            check_raised(self, ("InvalidCorner", {"value": wrong}), laid, empty, 0, wrong)
            check_raised(self, ("InvalidCorner", {"value": wrong}), hung, empty, wrong)
        for wrong in no_counts(0) + [0]:
            for call in (stretched, taken, shrunk):
                check_raised(self, ("InvalidTie", {"value": wrong}), call, empty, wrong)

    def test_loops_and_bridges_stretched(self):
        self.assertEqual(stretched(Web((1, 0)), 0).turn(), (3, 2, 1, 0))
        self.assertEqual(stretched(Web((0, 1)), 0).turn(), model.stretched((0, 1), 0))
        self.assertEqual(stretched(Web((0, 1)), 0).places(), [(0,), (1, 2), (3,)])

    def test_fourteen_ties_and_fifteen(self):
        for turn in FULL:
            web = Web(turn)
            check_raised(self, TOO_MANY, laid, web, 5, 5)
            one, other = [pair for pair in facing(turn) if pair[0] != pair[1]][0]
            check_raised(self, TOO_MANY, laid, web, one, other)
            check_raised(self, TOO_MANY, hung, web, 27)
            check_raised(self, TOO_MANY, stretched, web, 13)
        for turn in (model.ring(13), model.star(13)):
            web = Web(turn)
            made = [laid(web, 0, 0), hung(web, 25), stretched(web, 12)]
            self.assertEqual([one.many for one in made], [14, 14, 14])

    def test_wrong_values_of_a_full_web(self):
        for turn in FULL[:2]:
            web = Web(turn)
            corners, ties = plain(no_counts(28), "InvalidCorner"), plain(no_counts(14), "InvalidTie")
            for value, error, attributes in corners:
                check_raised(self, (error, attributes), laid, web, value, value)
                check_raised(self, (error, attributes), laid, web, 0, value)
                check_raised(self, (error, attributes), hung, web, value)
            for value, error, attributes in ties:
                check_raised(self, (error, attributes), stretched, web, value)


class TakenAway(unittest.TestCase):

    def test_taken(self):
        for turn in WEBS + FULL:
            for tie in range(len(turn) // 2):
                if model.is_bridge(turn, tie):
                    check_raised(self, ("Parted", {}), taken, Web(turn), tie)
                else:
                    self.assertEqual(taken(Web(turn), tie).turn(), model.taken(turn, tie))

    def test_shrunk(self):
        for turn in WEBS + FULL:
            for tie in range(len(turn) // 2):
                if model.is_loop(turn, tie):
                    check_raised(self, ("IsLoop", {}), shrunk, Web(turn), tie)
                else:
                    self.assertEqual(shrunk(Web(turn), tie).turn(), model.shrunk(turn, tie))

    def test_the_last_place(self):
        self.assertEqual([taken(Web((1, 0)), 0), shrunk(Web((0, 1)), 0)], [Web(()), Web(())])
        check_raised(self, ("Parted", {}), taken, Web((0, 1)), 0)
        check_raised(self, ("IsLoop", {}), shrunk, Web((1, 0)), 0)

    def test_a_loop_taken_and_a_bridge_shrunk(self):
        for turn in WEBS:
            web = Web(turn)
            for tie in range(web.many):
                if is_loop(web, tie):
                    self.assertEqual(len(taken(web, tie).places()), len(web.places()))
                if is_bridge(web, tie):
                    self.assertEqual(len(shrunk(web, tie).faces()), len(web.faces()))

    def test_wrong_values(self):
        web = Web(model.grown(5, 4))
        for call in (taken, shrunk, stretched):
            check_wrong(self, call, {"web": web, "tie": 4}, {
                "web": webs_and(), "tie": plain(no_counts(5), "InvalidTie")})
        corners = plain(no_counts(10), "InvalidCorner")
        check_wrong(self, hung, {"web": web, "corner": 9}, {"web": webs_and(), "corner": corners})
        check_wrong(self, laid, {"web": web, "corner": 9, "other": 9}, {
            "web": webs_and(), "corner": corners, "other": corners})


class Facts(unittest.TestCase):

    def test_led_back(self):
        for turn in small():
            web, new = Web(turn), len(turn) // 2
            for one, other in facing(turn):
                self.assertEqual(taken(laid(web, one, other), new), web)
            for corner in model.corners(turn):
                self.assertEqual(shrunk(hung(web, corner), new), web)
            for tie in range(new):
                self.assertEqual(shrunk(stretched(web, tie), new), web)

    def test_taken_and_shrunk_turned_about(self):
        for turn in WEBS:
            web = Web(turn)
            for tie in range(web.many):
                if not is_bridge(web, tie):
                    self.assertEqual(about(taken(web, tie)), shrunk(about(web), tie))
                if not is_loop(web, tie):
                    self.assertEqual(about(shrunk(web, tie)), taken(about(web), tie))

    def test_laid_and_hung_turned_about(self):
        for turn in small():
            web = Web(turn)
            for corner in range(len(turn)):
                self.assertEqual(about(laid(web, corner, corner)), hung(about(web), corner ^ 1))
                self.assertEqual(about(hung(web, corner)), laid(about(web), corner ^ 1, corner ^ 1))

    def test_stretched_turned_about(self):
        for turn in small():
            web = Web(turn)
            for tie in range(web.many):
                ahead = about(web).turn().index(2 * tie + 1)
                self.assertEqual(about(stretched(web, tie)), laid(about(web), 2 * tie, ahead))

    def test_the_other_ties_keep_their_numbers(self):
        for turn in small():
            web = Web(turn)
            for one, other in facing(turn):
                told = laid(web, one, other)
                rows = [tuple(dart for dart in row if dart < len(turn)) for row in told.places()]
                self.assertEqual(sorted(rows), web.places())

    def test_alike_webs_lead_to_alike_ones(self):
        for seed, turn in enumerate(model.names(3)):
            other = model.scrambled(turn, seed)
            row = model.carryings(turn, other)[0]
            for corner in range(6):
                self.assertTrue(are_alike(hung(Web(turn), corner), hung(Web(other), row[corner])))
                for more in range(6):
                    if model.are_facing(turn, corner, more):
                        self.assertTrue(are_alike(
                            laid(Web(turn), corner, more), laid(Web(other), row[corner], row[more])))

    def test_the_web_that_was_passed_stays(self):
        web = Web((2, 3, 0, 1))
        for call, args in ((laid, (0, 3)), (hung, (1,)), (stretched, (1,)), (taken, (0,)), (shrunk, (1,))):
            check_kept(self, call, web, *args)
            self.assertEqual(web.turn(), (2, 3, 0, 1))


if __name__ == "__main__":
    unittest.main()

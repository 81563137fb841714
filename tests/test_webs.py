"""Webs [5], charts [7], webs seen from two sides [1a1], and what all of it rests on [2]."""

import unittest
from itertools import permutations

import model
from neverfewer.webs import Web, about, behind, is_bridge, is_chart, is_loop
from wrong import KINDS, check_kept, check_wrong, no_counts, plain, webs_and

WEBS = model.webs_up_to(4) + [model.grown(many, many) for many in range(5, 15)]
WEBS += [model.ring(14), model.bunch(14), model.star(14), model.about(model.star(13))]


class Turns(unittest.TestCase):

    def test_just_the_turns_of_webs_are_accepted(self):
        for size in (0, 2, 4, 6):
            for turn in permutations(range(size)):
                if model.is_turn(turn):
                    self.assertEqual(Web(turn).turn(), turn)
                else:
                    check_wrong(self, Web, {"turn": ()}, {"turn": plain([turn], "InvalidTurn")})

    def test_what_is_no_turn(self):
        wrong = [value for value in KINDS if value != ()] + [
            [], [1, 0], [2, 3, 0, 1], (True, False), (True, 0), (1, False), (1, 0, 2), (0,), (1, 1), (0, 0),
            (1, 2), (-1, 0), (2, 3, 0, 4), (2, 3, 0, 0), (2, 3, False, True), (2, 3, 0, "1"), (2, 3, 0, None),
            (2, 3, 0, [1]), ((2, 3), (0, 1)), (1, 0, 3, 2), (2, 3, 1, 0, 5, 4), (10 ** 29, 0), "10", b"10",
            (0, 1, 2, 3), (1, 2, 3, 4, 5, 0), (1, 2, 3, 0),
        ]
        wrong = [value for value in wrong if not (type(value) is tuple and model.is_turn(value))]
        self.assertGreater(len(wrong), 38)
        check_wrong(self, Web, {"turn": (2, 3, 0, 1)}, {"turn": plain(wrong, "InvalidTurn")})

    def test_one_dart_changed(self):
        turn = model.grown(9, 3)
        for dart in range(18):
            for value in (True, False, None, -1, 18, str(turn[dart]), (turn[dart],)):
                wrong = turn[:dart] + (value,) + turn[dart + 1:]
                check_wrong(self, Web, {"turn": turn}, {"turn": plain([wrong, list(turn)], "InvalidTurn")})

    def test_fourteen_ties_and_fifteen(self):
        for made in (model.ring, model.bunch, model.star):
            self.assertEqual(Web(made(14)).many, 14)
            check_wrong(self, Web, {"turn": made(14)}, {"turn": plain([made(15), made(20)], "InvalidTurn")})

    def test_not_on_a_ball(self):
        # One place, one face, two ties: that lies on a ring-shaped body, not on a ball.
        wrong = plain([(2, 3, 1, 0), (3, 2, 0, 1)], "InvalidTurn")
        self.assertEqual([len(model.faces(turn[0])) for turn in wrong], [1, 1])
        check_wrong(self, Web, {"turn": ()}, {"turn": wrong})


class Told(unittest.TestCase):

    def test_places_and_faces(self):
        for turn in WEBS:
            web = Web(turn)
            self.assertEqual(web.turn(), turn)
            self.assertIs(type(web.turn()), tuple)
            self.assertEqual([type(web.places()), type(web.faces())], [list, list])
            self.assertEqual(web.places(), model.places(turn))
            self.assertEqual(web.faces(), model.faces(turn))
            self.assertEqual(web.many, len(turn) // 2)
            for dart in range(len(turn)):
                self.assertEqual(web.place(dart), model.place(turn, dart))
                self.assertEqual(web.face(dart=dart), model.face(turn, dart))

    def test_no_ties(self):
        web = Web(())
        self.assertEqual([web.turn(), web.places(), web.faces(), web.many], [(), [()], [()], 0])
        self.assertEqual([about(web), behind(web), is_chart(web)], [web, web, False])

    def test_wrong_darts(self):
        for turn in ((), (0, 1), (2, 3, 0, 1), model.grown(7, 1)):
            web, size = Web(turn), len(turn)
            wrong = plain(no_counts(size), "InvalidDart")
            for call in (web.place, web.face):
                if turn:
                    check_wrong(self, call, {"dart": size - 1}, {"dart": wrong})
                else:
                    check_wrong(self, lambda dart: dart is web or call(dart), {"dart": web}, {"dart": wrong})

    def test_equal(self):
        for one in WEBS[:24]:
            for other in WEBS[:24]:
                self.assertIs(Web(one) == Web(other), one == other)
                self.assertIs(Web(one) != Web(other), one != other)
        web = Web((2, 3, 0, 1))
        for value in KINDS + [(2, 3, 0, 1), [2, 3, 0, 1]]:
            self.assertIs(web == value, False)
            self.assertIs(web != value, True)

    def test_new_each_time(self):
        web = Web(model.grown(8, 5))
        for call in (web.turn, web.places, web.faces):
            check_kept(self, call)

    def test_no_error_changes_a_web(self):
        web = Web((2, 3, 0, 1))
        for dart in no_counts(4):
            with self.assertRaises(ValueError):
                web.place(dart)
        self.assertEqual([web.turn(), web.place(3), web.many], [(2, 3, 0, 1), (1, 3), 2])


class TwoSides(unittest.TestCase):

    def test_turned_about(self):
        for turn in WEBS:
            web, other = Web(turn), about(Web(turn))
            self.assertEqual(other.turn(), tuple(turn[dart ^ 1] for dart in range(len(turn))))
            self.assertEqual([other.places(), other.faces()], [web.faces(), web.places()])
            self.assertEqual(about(other), web)

    def test_from_behind(self):
        for turn in WEBS:
            web, other = Web(turn), behind(Web(turn))
            self.assertTrue(all(other.turn()[turn[dart]] == dart for dart in range(len(turn))))
            self.assertEqual(other.places(), sorted(row[:1] + row[:0:-1] for row in web.places()))
            backward = [tuple(dart ^ 1 for dart in row[::-1]) for row in web.faces()]
            self.assertEqual(other.faces(), sorted(model.from_on(row, min(row)) if row else () for row in backward))
            self.assertEqual(behind(other), web)

    def test_both(self):
        for turn in WEBS:
            web = Web(turn)
            one, other = behind(about(web)), about(behind(web))
            self.assertEqual(model.name(one.turn()), model.name(other.turn()))

    def test_places_and_faces_together(self):
        for turn in WEBS:
            web = Web(turn)
            self.assertEqual(len(web.places()) + len(web.faces()), web.many + 2)

    def test_loops_and_bridges(self):
        for turn in WEBS:
            web = Web(turn)
            for tie in range(web.many):
                loop, bridge = is_loop(web, tie), is_bridge(web, tie)
                self.assertEqual([loop, bridge], [model.is_loop(turn, tie), model.is_bridge(turn, tie)])
                self.assertEqual([type(loop), type(bridge)], [bool, bool])
                self.assertFalse(loop and bridge)
                self.assertEqual([is_loop(behind(web), tie), is_bridge(behind(web), tie)], [loop, bridge])
                self.assertEqual([is_loop(about(web), tie), is_bridge(about(web), tie)], [bridge, loop])

    def test_charts(self):
        for turn in WEBS:
            self.assertIs(is_chart(Web(turn)), model.is_chart(turn))
        for turn, told in (((), False), ((0, 1), False), ((1, 0), False), ((2, 3, 0, 1), True), (model.ring(2), True)):
            self.assertIs(is_chart(Web(turn)), told)

    def test_how_many_there_are(self):
        # How many webs of so many ties there are, and how many of them are charts or blocks.
        many = [[Web(turn) for turn in model.names(size)] for size in range(6)]
        self.assertEqual([len(webs) for webs in many], [1, 2, 4, 14, 57, 312])
        self.assertEqual([len([web for web in webs if is_chart(web)]) for webs in many], [0, 0, 1, 2, 4, 8])

    def test_wrong_values(self):
        web = Web(model.grown(5, 1))
        for call in (behind, about, is_chart):
            check_wrong(self, call, {"web": web}, {"web": webs_and()})
        for call in (is_loop, is_bridge):
            check_wrong(self, call, {"web": web, "tie": 4}, {
                "web": webs_and(), "tie": plain(no_counts(5), "InvalidTie")})
            empty = plain(no_counts(0) + [0], "InvalidTie")
            for value, error, attributes in empty:
                with self.assertRaises(ValueError) as caught:
                    call(Web(()), value)
                self.assertEqual([type(caught.exception).__name__, vars(caught.exception)], [error, attributes])

    def test_new_webs(self):
        web = Web(model.grown(6, 2))
        for call in (about, behind):
            check_kept(self, call, web)
            self.assertEqual(web, Web(model.grown(6, 2)))


if __name__ == "__main__":
    unittest.main()

"""Turns read from darts, names, carryings, webs called otherwise: [6], [1a2], [1a3], [1a4]."""

import unittest
from random import Random

import model
from neverfewer.names import are_alike, called, carrying_from, carryings, is_carrying, name, turn_from
from neverfewer.webs import Web, about, behind, is_bridge, is_loop
from wrong import KINDS, check_bools, check_kept, check_wrong, no_counts, plain, webs_and

WEBS = model.webs_up_to(4) + [model.grown(many, many) for many in range(5, 15)]
WEBS += [model.ring(7), model.bunch(14), model.star(5), model.about(model.star(6))]


class Names(unittest.TestCase):

    def test_turns_read(self):
        for turn in WEBS:
            read = [turn_from(Web(turn), dart) for dart in range(len(turn))]
            self.assertEqual(read, [model.turn_from(turn, dart) for dart in range(len(turn))])
            self.assertEqual({type(one) for one in read} - {tuple}, set())

    def test_the_name_is_the_least(self):
        for turn in WEBS:
            self.assertEqual(name(Web(turn)), model.name(turn))
            self.assertIs(type(name(Web(turn))), tuple)
            self.assertEqual(name(Web(name(Web(turn)))), name(Web(turn)))
            self.assertTrue(are_alike(Web(turn), Web(name(Web(turn)))))

    def test_called_otherwise_it_has_the_same_name(self):
        for seed, turn in enumerate(WEBS):
            self.assertEqual(name(Web(model.scrambled(turn, seed + 7))), name(Web(turn)))

    def test_alike_just_if_the_names_are_equal(self):
        turns = model.webs_up_to(3)
        for one in turns:
            for other in turns:
                told = bool(model.carryings(one, other))
                self.assertIs(are_alike(Web(one), Web(other)), told)
                self.assertEqual(name(Web(one)) == name(Web(other)), told)

    def test_alike_from_its_other_sides(self):
        for turn in WEBS:
            web = Web(turn)
            for other in (behind(web), about(web), behind(about(web))):
                told = bool(model.carryings(turn, other.turn()))
                self.assertIs(are_alike(web, other), told)
        self.assertIs(are_alike(Web(model.ring(3)), Web(model.bunch(3))), False)

    def test_no_ties(self):
        empty, tie = Web(()), Web((0, 1))
        self.assertEqual([name(empty), carryings(empty, empty), carryings(tie, empty), carryings(empty, tie)],
                         [(), [[]], [], []])
        self.assertEqual([are_alike(empty, empty), are_alike(tie, empty), is_carrying(empty, empty, [])],
                         [True, False, True])
        self.assertEqual([is_carrying(empty, empty, ()), is_carrying(empty, tie, []), is_carrying(tie, empty, [])],
                         [True, False, False])
        self.assertEqual([called(empty, []), called(empty, ()), carrying_from(empty, tie, 0)], [empty, empty, None])

    def test_wrong_values(self):
        web = Web(model.grown(5, 2))
        darts = plain(no_counts(10), "InvalidDart")
        check_wrong(self, turn_from, {"web": web, "dart": 9}, {"web": webs_and(), "dart": darts})
        check_wrong(self, name, {"web": web}, {"web": webs_and()})
        for value, error, attributes in plain(no_counts(0) + [0], "InvalidDart"):
            with self.assertRaises(ValueError) as caught:
                turn_from(Web(()), value)
            self.assertEqual([type(caught.exception).__name__, vars(caught.exception)], [error, attributes])

    def test_new_each_time(self):
        for turn in WEBS[::9]:
            check_kept(self, name, Web(turn))
            for dart in range(len(turn)):
                check_kept(self, turn_from, Web(turn), dart)


class Carryings(unittest.TestCase):

    def pairs(self):
        for seed, turn in enumerate(WEBS):
            for other in (turn, model.scrambled(turn, seed + 5), model.behind(turn), model.about(turn)):
                yield turn, other
        small = model.webs_up_to(2)
        for one in small:
            for other in small:
                yield one, other

    def test_all_carryings(self):
        for one, other in self.pairs():
            told = carryings(Web(one), Web(other))
            self.assertEqual(told, sorted(model.carryings(one, other)))
            self.assertEqual([type(told)] + [type(row) for row in told], [list] * (len(told) + 1))

    def test_known_by_where_one_dart_goes(self):
        for one, other in self.pairs():
            known = {row[0]: row for row in model.carryings(one, other) if row}
            for dart in range(len(other)):
                told = carrying_from(Web(one), Web(other), dart)
                self.assertEqual(told, known.get(dart))
                self.assertIn(type(told), (list, type(None)))

    def test_carried(self):
        for one, other in self.pairs():
            web, image = Web(one), Web(other)
            for row in carryings(web, image):
                self.assertIs(is_carrying(web, image, row), True)
                self.assertIs(is_carrying(web, image, tuple(row)), True)
                for here, there in ((web.places(), image.places()), (web.faces(), image.faces())):
                    brought = [tuple(row[dart] for dart in cycle) for cycle in here]
                    self.assertEqual(sorted(model.from_on(cycle, min(cycle)) if cycle else ()
                                            for cycle in brought), there)
                for tie in range(web.many):
                    self.assertEqual(is_loop(web, tie), is_loop(image, row[2 * tie] // 2))
                    self.assertEqual(is_bridge(web, tie), is_bridge(image, row[2 * tie] // 2))
                back = [row.index(dart) for dart in range(len(row))]
                self.assertIn(back, carryings(image, web))

    def test_one_after_the_other(self):
        for turn in (model.ring(5), model.grown(6, 3), model.names(4)[3]):
            web, other = Web(turn), Web(model.scrambled(turn, 1))
            for row in carryings(web, other):
                for more in carryings(other, web):
                    self.assertIs(is_carrying(web, web, [more[dart] for dart in row]), True)

    def test_how_many(self):
        for seed, turn in enumerate(WEBS):
            web, other = Web(turn), Web(model.scrambled(turn, seed + 3))
            self.assertEqual(len(carryings(web, other)), len(carryings(web, web)))
            if turn:
                self.assertEqual(len(turn) % len(carryings(web, web)), 0)
        for many in range(2, 15):
            self.assertEqual(len(carryings(Web(model.ring(many)), Web(model.ring(many)))), 2 * many)

    def test_same_turn_read_just_if_carried(self):
        for turn in WEBS[::3]:
            web = Web(turn)
            loops = carryings(web, web)
            for one in range(len(turn)):
                for other in range(len(turn)):
                    carried = any(row[one] == other for row in loops)
                    self.assertEqual(turn_from(web, one) == turn_from(web, other), carried)

    def test_the_ring_of_three(self):
        three = Web((5, 2, 1, 4, 3, 0))
        self.assertEqual([sorted(map(len, three.places())), sorted(map(len, three.faces()))], [[2, 2, 2], [3, 3]])
        self.assertEqual(len({turn_from(three, dart) for dart in range(6)}), 1)
        self.assertEqual([row[0] for row in carryings(three, three)], [0, 1, 2, 3, 4, 5])

    def test_what_is_no_carrying(self):
        two = Web((2, 3, 0, 1))
        wrong = KINDS + [[0, 1, 2], [0, 1, 2, 3, 4], [0, 1, 3, 2], [0, 1, 2, 2], [0, 1, 2, True], [False, 1, 2, 3],
                         (0, True, 2, 3), [0, 1, 2, "3"], [0, 1, 2, None], [0, 1, 2, [3]], "0123", b"0123",
                         {0: 0, 1: 1, 2: 2, 3: 3}, [0, 1, 2, -1], [1, 0, 2, 3], [2, 0, 3, 1], [0, 1, 2, 4],
                         [0, 1, 2, 3, 0, 1], (2, 3, 0, 1, 2, 3, 0, 1), [0, 1]]
        check_bools(self, lambda value: is_carrying(two, two, value), wrong)
        check_bools(self, lambda value: is_carrying(two, Web(model.ring(3)), value), wrong + [[0, 1, 2, 3]])
        check_bools(self, lambda value: is_carrying(two, Web((2, 1, 3, 0)), value), wrong + [[0, 1, 2, 3]])

    def test_one_dart_changed(self):
        luck = Random(4)
        for turn in (model.ring(4), model.grown(7, 5), model.names(4)[20], model.names(3)[5]):
            web, other = Web(turn), Web(model.scrambled(turn, 2))
            right = model.carryings(turn, other.turn())
            for row in right:
                for _ in range(30):
                    wrong = list(row)
                    one, two = luck.randrange(len(row)), luck.randrange(len(row))
                    wrong[one], wrong[two] = wrong[two], wrong[one]
                    if luck.randrange(2):
                        wrong[one ^ 1], wrong[two ^ 1] = wrong[one] ^ 1, wrong[two] ^ 1
                    self.assertIs(is_carrying(web, other, wrong), wrong in right)

    def test_wrong_values(self):
        web, other = Web(model.grown(5, 2)), Web(model.grown(6, 2))
        webs = webs_and()
        for call in (carryings, are_alike):
            check_wrong(self, call, {"web": web, "other": other}, {"web": webs, "other": webs})
        check_wrong(self, is_carrying, {"web": web, "other": web, "value": 0}, {"web": webs, "other": webs})
        darts = plain(no_counts(12), "InvalidDart")
        check_wrong(self, carrying_from, {"web": web, "other": other, "dart": 11}, {
            "web": webs, "other": webs, "dart": darts})
        darts = plain(no_counts(10), "InvalidDart")
        check_wrong(self, carrying_from, {"web": other, "other": web, "dart": 9}, {"dart": darts})
        check_wrong(self, carrying_from, {"web": Web(()), "other": web, "dart": 9}, {"dart": darts})

    def test_new_each_time(self):
        web, other = Web(model.ring(4)), Web(model.scrambled(model.ring(4), 9))
        check_kept(self, carryings, web, other)
        check_kept(self, carryings, Web(()), Web(()))
        check_kept(self, carryings, Web(()), web)
        check_kept(self, carrying_from, web, other, 3)
        check_kept(self, is_carrying, web, web, list(range(8)))
        check_kept(self, are_alike, web, other)
        value = list(range(8))
        is_carrying(web, web, value)
        self.assertEqual(value, list(range(8)))


class Called(unittest.TestCase):

    def test_called(self):
        for seed, turn in enumerate(WEBS):
            web = Web(turn)
            image = model.scrambled(turn, seed + 11)
            for row in model.carryings(turn, image):
                told = called(web, row)
                self.assertEqual(told, Web(image))
                self.assertEqual(called(web, tuple(row)), Web(image))
                self.assertIs(is_carrying(web, told, row), True)
                self.assertTrue(all(told.turn()[row[dart]] == row[turn[dart]] for dart in range(len(turn))))

    def test_carryings_to_itself_call_it_the_same(self):
        for turn in WEBS[::4]:
            for row in carryings(Web(turn), Web(turn)):
                self.assertEqual(called(Web(turn), row), Web(turn))

    def test_what_was_passed_stays(self):
        web, darts = Web((2, 3, 0, 1)), [2, 3, 1, 0]
        told = called(web, darts)
        darts.reverse()
        self.assertEqual([web.turn(), told.turn(), darts], [(2, 3, 0, 1), (3, 2, 1, 0), [0, 1, 3, 2]])

    def test_wrong_values(self):
        wrong = KINDS + [[0, 1, 2], [0, 1, 2, 3, 4], [0, 1, 2, 2], [0, 1, 2, True], [False, 1, 2, 3], (0, True, 2, 3),
                         [0, 1, 2, "3"], [0, 1, 2, None], [0, 1, 2, [3]], "0123", b"0123", [0, 1, 2, -1],
                         {0: 0, 1: 1, 2: 2, 3: 3}, [0, 2, 1, 3], [3, 1, 2, 0], [0, 1, 2, 4], [-1, 1, 2, 3],
                         [0, 1, 2, 3, 0, 1], (2, 3, 0, 1, 2, 3, 0, 1), [0, 1]]
        check_wrong(self, called, {"web": Web((2, 3, 0, 1)), "darts": [1, 0, 2, 3]}, {
            "web": webs_and(), "darts": plain(wrong, "InvalidDarts")})
        empty = [value for value in KINDS if value not in ([], ())]
        check_wrong(self, called, {"web": Web(()), "darts": []}, {"darts": plain(empty + [[0, 1]], "InvalidDarts")})


if __name__ == "__main__":
    unittest.main()

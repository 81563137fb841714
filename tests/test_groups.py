"""Invariants of tables, groups of drawings: [8b1], [8b2], KEPT of [4]."""

import unittest
from collections import Counter
from itertools import product
from random import Random

import cord_model
import group_model
import model
import ring_model
from neverfewer.blocks import joined
from neverfewer.cords import cords
from neverfewer.drawings import Drawing, from_behind, negated, other_colour, plain_drawing
from neverfewer.flows import flow_rows, flow_table
from neverfewer.flypes import flyped, flypes
from neverfewer.groups import group, invariants, is_smith, place_table, smith
from neverfewer.parts import parts
from neverfewer.trees import trees_many
from neverfewer.turns import turned
from neverfewer.webs import Web
from wrong import KINDS, check_bools, check_kept, check_wrong, plain
from test_drawings import NO_DRAWINGS, THREE, made
from test_flows import some_tree
from test_states import CHARTS, DRAWINGS

LARGE = [(turn, cord_model.some_marks(turn, 5)) for turn in (
    model.ring(14), model.bunch(14), model.star(14), model.about(model.star(14)), model.grown(14, 3), model.grown(13, 6, 0.8),
    model.joined(model.grown(7, 1), 2, model.grown(6, 4), 5))]
SMALL = cord_model.drawings_up_to(3) + DRAWINGS


def some_tables(seed):
    """Tables with lists of 0, lists that lean on each other, common divisors, and large numbers."""
    luck, found = Random(seed), [[], [[0]], [[1]], [[-7]], [[0, 0], [0, 0]], [[0, 4], [6, 0]], [[2, 0], [0, 3]]]
    for many in (1, 2, 3, 4, 5, 6, 9, 14):
        found.append([[luck.randint(-3, 3) for _ in range(many)] for _ in range(many)])
        found.append([[luck.randint(-10 ** 9, 10 ** 9) for _ in range(many)] for _ in range(many)])
        found.append([[luck.choice((0, 0, 0, 1, -1, 2)) for _ in range(many)] for _ in range(many)])
        found.append([[12 * luck.randint(-4, 4) for _ in range(many)] for _ in range(many)])
        found.append([[luck.choice((2, 4, 8, 6, 12, 18)) for _ in range(many)] for _ in range(many)])
        found.append([[luck.randint(1, 400) if i == j else 0 for j in range(many)] for i in range(many)])
        few = [[luck.randint(-5, 5) for _ in range(many)] for _ in range(1 + many // 2)]
        found.append([[sum(luck.choice((-1, 0, 2)) * x for x in column) for column in zip(*few)] for _ in range(many)])
    return found


TABLES = some_tables(1) + some_tables(2)
HUGE = [[[Random(seed).randint(-10 ** 30, 10 ** 30) * (at != to or seed < 2) for at in range(14)] for to in range(14)] for seed in (0, 1)]
HUGE += [[[Random(3 + at).randint(1, 10 ** 30) if at == to else 0 for at in range(14)] for to in range(14)]]


def wrong_tables():
    good = ([], (), [[0]], ((0,),))
    fifteen = [[1 if i == j else 0 for j in range(15)] for i in range(15)]
    return [value for value in KINDS if value not in good] + [
        [[1, 2], [2]], [[1, 2]], [[1], [2]], [1, 2], [[1, 2], 3], [[True]], [[1, True], [1, 1]], [[1, 0], [False, 1]], [["1"]],
        [[None]], [[[1]]], ["1"], "12", fifteen, tuple(map(tuple, fifteen)), {0: [0]}, [{0: 0}], [[]], [[], []], [()], {0}, [{0}],
        [b"0"], [[1, 0], [0, 1], [0, 0]], [range(1)]]


class Invariants(unittest.TestCase):

    def test_by_common_divisors(self):
        for table in TABLES:
            if len(table) <= 4:
                row = group_model.full_row(table)
                told = invariants(table)
                self.assertEqual(told, [number for number in row if number != 1])
                self.assertEqual([type(told)] + [type(number) for number in told], [list] + [int] * len(told))
                self.assertEqual(invariants(table=tuple(map(tuple, table))), told)

    def test_all_small_tables(self):
        for numbers in product((-2, 0, 1, 3), repeat=4):
            table = [list(numbers[:2]), list(numbers[2:])]
            self.assertEqual(invariants(table), [number for number in group_model.full_row(table) if number != 1])

    def test_of_any_size(self):
        for table in TABLES:
            told = invariants(table)
            self.assertEqual(told, [number for number in group_model.quick_row(table) if number != 1])
            for one, other in zip(told, told[1:]):
                self.assertTrue(other == 0 if one == 0 else other % one == 0)
            whole = 1
            for number in told:
                whole *= number
            if len(table) <= 6:
                self.assertEqual(whole, abs(ring_model.determinant(table)))

    def test_turned_over(self):
        for table in TABLES:
            self.assertEqual(invariants([list(column) for column in zip(*table)]), invariants(table))

    def test_wrong_values(self):
        table = [[0, 4], [6, 0]]
        for call in (invariants, smith):
            check_wrong(self, call, {"table": table}, {"table": plain(wrong_tables(), "InvalidTable")})
            for other in TABLES[::9]:
                check_kept(self, invariants, other)
        self.assertEqual(table, [[0, 4], [6, 0]])


class Smith(unittest.TestCase):

    def test_what_it_makes(self):
        for table in TABLES + HUGE:
            told = smith(table)
            self.assertEqual([type(told), len(told)], [tuple, 2])
            for one in told:
                self.assertEqual([type(one)] + [type(row) for row in one], [list] * (len(table) + 1))
                self.assertTrue(all(type(number) is int and len(str(abs(number))) <= 4000 for row in one for number in row))
            left, right = told
            made_of = group_model.times(group_model.times(left, table), right)
            row = group_model.quick_row(table) if table not in HUGE else [made_of[at][at] for at in range(len(table))]
            self.assertEqual(made_of, [[row[i] if i == j else 0 for j in range(len(table))] for i in range(len(table))])
            self.assertIs(is_smith(table, told), True)
            if len(table) <= 5:
                self.assertEqual([abs(ring_model.determinant(one)) for one in told], [1, 1])
        for table in TABLES[::5]:
            self.assertIs(is_smith(table=table, value=smith(table=tuple(table))), True)

    def test_which_are(self):
        found = {True: 0, False: 0}
        for table in [[[0, 4], [6, 0]], [[2, -1], [-1, 2]], [[1, 0], [0, 0]], [[0, 0], [0, 0]], [[1, 0], [0, 1]]]:
            row = group_model.full_row(table)
            for numbers in product((-1, 0, 1, 2), repeat=4):
                left = [list(numbers[:2]), list(numbers[2:])]
                for right in ([[1, 0], [0, 1]], [[1, 2], [0, 1]], [[0, 1], [1, 0]], [[1, 0], [0, 2]], smith(table)[1]):
                    is_one = group_model.times(group_model.times(left, table), right) == [[row[0], 0], [0, row[1]]]
                    is_one = is_one and abs(ring_model.determinant(left)) == abs(ring_model.determinant(right)) == 1
                    self.assertIs(is_smith(table, (left, right)), is_one)
                    found[is_one] += 1
        self.assertGreater(found[True], 15)

    def test_in_sequence(self):
        unit = [[1, 0], [0, 1]]
        self.assertIs(is_smith([[2, 0], [0, 4]], (unit, unit)), True)
        self.assertIs(is_smith([[4, 0], [0, 2]], (unit, unit)), False)
        self.assertIs(is_smith([[2, 0], [0, 3]], (unit, unit)), False)
        self.assertIs(is_smith([[-2, 0], [0, 4]], (unit, unit)), False)
        self.assertIs(is_smith([[0, 0], [0, 4]], (unit, unit)), False)
        self.assertIs(is_smith([[4, 0], [0, 0]], (unit, unit)), True)

    def test_wrong_kinds(self):
        def ask(value):
            return is_smith([[2, 0], [0, 4]], value)
        unit = [[1, 0], [0, 1]]
        for value in ((unit, unit), (((1, 0), (0, 1)), unit), (unit, ([1, 0], (0, 1)))):
            self.assertIs(ask(value), True)
        check_bools(self, ask, KINDS + [(value, unit) for value in KINDS] + [(unit, value) for value in KINDS])
        check_bools(self, ask, [
            [unit, unit], (unit, unit, unit), (unit,), ([[True, 0], [0, 1]], unit), (unit, [[1, False], [0, 1]]),
            ([[1, 0]], unit), ([[1, 0], [0]], unit), ([[1, 0, 0], [0, 1, 0]], unit), ([[1, 0], [0, 1], [0, 0]], unit),
            (unit, [[1, 0], [0, "1"]]), (unit, {0: [1, 0], 1: [0, 1]}), ([[-1, 0], [0, 1]], unit)])
        check_bools(self, lambda value: is_smith([], value), [value for value in KINDS] + [([],), ([], [], []), ([[]], [])])
        for value in (([], []), ((), ()), ([], ())):
            self.assertIs(is_smith([], value), True)
            self.assertIs(is_smith((), value), True)

    def test_wrong_values(self):
        check_wrong(self, is_smith, {"table": [[0, 4], [6, 0]], "value": ()}, {"table": plain(wrong_tables(), "InvalidTable")})


def powers(numbers):
    """How many of the numbers each power of a prime divides."""
    found = Counter()
    for number in numbers:
        found.update([many for many in (2, 4, 8, 16, 3, 9, 27, 5, 25, 7, 11, 13, 17, 19, 23) if number % many == 0])
    return found


class Groups(unittest.TestCase):

    def test_place_tables(self):
        for drawing in SMALL + LARGE:
            told = place_table(made(drawing))
            self.assertEqual(told, group_model.place_table(drawing))
            self.assertEqual([type(told)] + [type(row) for row in told], [list] * (len(told) + 1))
            self.assertEqual(place_table(drawing=made(drawing)), told)

    def test_groups(self):
        for drawing in SMALL + LARGE:
            told = group(made(drawing))
            self.assertEqual(told, group_model.group(drawing))
            self.assertEqual([type(told)] + [type(number) for number in told], [list] + [int] * len(told))
            self.assertEqual(group(drawing=made(drawing)), told)

    def test_the_determinant(self):
        for drawing in SMALL:
            self.assertEqual(ring_model.determinant(place_table(made(drawing))), group_model.sum_over_trees(drawing))
        for turn in CHARTS + [model.grown(14, 2), model.ring(14), model.bunch(14)]:
            whole = 1
            for number in group(plain_drawing(Web(turn))):
                whole *= number
            self.assertEqual(whole, trees_many(Web(turn)))

    def test_an_other_place_left_out(self):
        for drawing in SMALL[::2] + LARGE[:3]:
            for out in range(len(model.places(drawing[0])))[:6]:
                self.assertEqual(invariants(group_model.place_table(drawing, out)), group(made(drawing)))

    def test_what_keeps_it(self):
        for drawing in SMALL + LARGE:
            for change in (negated, other_colour, from_behind):
                self.assertEqual(group(change(made(drawing))), group(made(drawing)))

    def test_moves_keep_it(self):
        for seed, drawing in enumerate(SMALL[::3]):
            for other in cord_model.wandered(drawing, seed, 10, 14)[1]:
                self.assertEqual(group(made(other)), group(made(drawing)))

    def test_the_same_rings(self):
        for seed, turn in enumerate(model.block_names(6)[::3] + [model.grown(9, 2), model.grown(11, 5)]):
            drawing = Drawing(Web(turn), cord_model.some_marks(turn, seed))
            for ties in parts(Web(turn))[::5]:
                for letter in "abc":
                    self.assertEqual(group(Drawing(turned(Web(turn), ties, letter), drawing.marks())), group(drawing))
            for tie, ties in flypes(Web(turn))[::6]:
                self.assertEqual(group(plain_drawing(flyped(Web(turn), tie, ties))), group(plain_drawing(Web(turn))))

    def test_one_cord_more_than_even_numbers(self):
        for drawing in SMALL + LARGE:
            even = [number for number in group(made(drawing)) if number % 2 == 0]
            self.assertEqual(len(cords(Web(drawing[0]))), len(even) + 1)

    def test_flow_tables(self):
        for turn in CHARTS + [model.star(5), (1, 0), (), model.grown(14, 1)]:
            rows = flow_rows(Web(turn), some_tree(turn))
            table = ring_model.table_of(rows)
            if len(rows) <= 6:
                self.assertEqual(table, flow_table(Web(turn), some_tree(turn)))
            self.assertEqual(invariants(table), group(plain_drawing(Web(turn))))

    def test_joined(self):
        some = [drawing for drawing in SMALL if len(drawing[1]) <= 5][::11] + [(model.ring(4), (1,) * 4), (model.bunch(6), (-1,) * 6)]
        for one in some:
            for other in some[::2]:
                both = Drawing(joined(Web(one[0]), 0, Web(other[0]), 0), one[1] + other[1])
                self.assertEqual(powers(group(both)), powers(group(made(one)) + group(made(other))))

    def test_wrong_values(self):
        for call in (place_table, group):
            check_wrong(self, call, {"drawing": made((THREE, (1, 1, -1)))}, {"drawing": plain(NO_DRAWINGS, "InvalidDrawing")})
            check_kept(self, call, made((THREE, (1, 1, 1))))
            self.assertEqual(call(plain_drawing(Web(()))), [])


if __name__ == "__main__":
    unittest.main()

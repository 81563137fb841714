"""Rings out of tables, and changes: [8a3], [8a4], RINGS of [4]."""

import unittest
from itertools import permutations, product
from random import Random

import cord_model
import model
import ring_model
from neverfewer.flows import flow_rows, flow_table
from neverfewer.lattices import change, is_change, table_rings
from neverfewer.rings import rings
from neverfewer.webs import Web, behind
from wrong import KINDS, check_bools, check_kept, check_raised, check_wrong, plain
from test_flows import PAIRS, SIX, WEBS, rank, some_tree

TABLE = [[2, -1, -1], [-1, 4, 3], [-1, 3, 4]]
FLOWING = [turn for turn in WEBS if rank(turn) <= 4] + [model.grown(9, 4, 0.6), model.grown(8, 2), model.ring(12)]


def evened(many, numbers):
    """The table with these numbers at i, j, i at most j, row by row."""
    numbers = list(numbers)
    table = [[0] * many for _ in range(many)]
    for i in range(many):
        for j in range(i, many):
            table[i][j] = table[j][i] = numbers.pop()
    return table


def some_tables(seed, how_many, sizes=(0, 1, 2, 3), most=3):
    luck, found = Random(seed), []
    for _ in range(how_many):
        many = luck.choice(sizes)
        found.append(evened(many, [luck.randint(-most, most) for _ in range(many * (many + 1) // 2)]))
    return found


def wrong_tables():
    """Values that are no tables of this stage."""
    good = ([], ())
    seven = [[1 if i == j else 0 for j in range(7)] for i in range(7)]
    return [value for value in KINDS if value not in good and value not in ([[0]], ((0,),))] + [
        [[1, 2], [3, 1]], [[1, 2], [2]], [[1, 2]], [[1], [2]], [1, 2], [[1, 2], 3], [[True]], [[1, True], [True, 1]],
        [[1, 1], [True, 1]], [[1, 0], [False, 1]], [["1"]], [[None]], [[[1]]], ["1"], "12", seven, tuple(map(tuple, seven)),
        [[0] * 7] * 7, {0: [0]}, [{0: 0}], [[1, 2, 3], [2, 1, 4], [3, 5, 1]], [[]], [[], []], [()], {0}, [{0}], [b"0"],
        [[1, 0], [0, 1], [0, 0]], [[10 ** 29, 1], [2, 10 ** 29]], [range(1)]]


class TableRings(unittest.TestCase):

    def test_all_small_tables(self):
        tables = [evened(2, row) for row in product(range(-2, 4), repeat=3)] + [[], [[0]], [[1]], [[-2]], [[10 ** 29]]]
        for table in tables + some_tables(1, 60, (3,)) + some_tables(2, 5, (4,)):
            told = table_rings(table)
            self.assertEqual(told, ring_model.lone_rows(table))
            self.assertEqual([type(told)] + [type(row) for row in told], [list] + [tuple] * len(told))
            self.assertEqual(table_rings(table=tuple(map(tuple, table))), told)

    def test_rings_of_webs(self):
        for turn in FLOWING + SIX:
            trees = cord_model.trees(turn)[::11] if len(turn) <= 16 else [some_tree(turn)]
            for tree in trees:
                web = Web(turn)
                rows, table = flow_rows(web, tree), flow_table(web, tree)
                found = []
                for lone in table_rings(table):
                    total = [sum(x * row[at] for x, row in zip(lone, rows)) for at in range(web.many)]
                    self.assertTrue(set(total) <= {-1, 0, 1})
                    ties = tuple(tie for tie, number in enumerate(total) if number)
                    self.assertEqual(ring_model.weight(table, lone), len(ties))
                    found.append(ties)
                self.assertEqual(sorted(found), rings(web))

    def test_wrong_values(self):
        check_wrong(self, table_rings, {"table": TABLE}, {"table": plain(wrong_tables(), "InvalidTable")})
        check_kept(self, table_rings, TABLE)
        self.assertEqual(TABLE, [[2, -1, -1], [-1, 4, 3], [-1, 3, 4]])


class IsChange(unittest.TestCase):

    def test_all_small_ones(self):
        found = {True: 0, False: 0}
        for table in some_tables(3, 12, (2,), 2):
            for other in some_tables(4, 6, (2,), 2) + [table, [row[::-1] for row in table[::-1]]]:
                for numbers in product(range(-2, 3), repeat=4):
                    value = [list(numbers[:2]), list(numbers[2:])]
                    is_one = ring_model.is_change(table, other, value)
                    self.assertIs(is_change(table, other, value), is_one)
                    found[is_one] += 1
        self.assertGreater(found[True], 30)

    def test_larger_numbers(self):
        luck = Random(6)
        for table in some_tables(5, 40, (1, 2, 3, 4, 5)):
            many = len(table)
            value = ring_model.some_change(many, luck, 3)
            other = ring_model.changed(table, value)
            self.assertIs(is_change(table, other, value), True)
            self.assertIs(is_change(table=tuple(map(tuple, table)), other=tuple(map(tuple, other)), value=tuple(map(tuple, value))), True)
            value[luck.randrange(many)][luck.randrange(many)] += 1
            self.assertIs(is_change(table, other, value), ring_model.is_change(table, other, value))

    def test_the_determinant(self):
        # What is twice as much leads to a table four times as large, and is no change.
        self.assertIs(is_change([[1]], [[4]], [[2]]), False)
        self.assertIs(is_change([[0, 0], [0, 0]], [[0, 0], [0, 0]], [[1, 0], [0, 2]]), False)
        self.assertIs(is_change([[0, 0], [0, 0]], [[0, 0], [0, 0]], [[1, 5], [0, -1]]), True)
        self.assertIs(is_change([[0, 0], [0, 0]], [[0, 0], [0, 0]], [[1, 0], [1, 0]]), False)

    def test_unlike_sizes(self):
        for table, other in (([[1]], []), ([], [[1]]), ([[1, 0], [0, 0]], [[1]]), ([[1]], [[1, 0], [0, 0]])):
            check_bools(self, lambda value: is_change(table, other, value), [[], [[1]], [[1, 0], [0, 1]], [[1], [0]], [[1, 0]], None])

    def test_wrong_kinds(self):
        two = [[2, 1], [1, 3]]
        self.assertIs(is_change(two, two, ([1, 0], (0, 1))), True)
        check_bools(self, lambda value: is_change(two, two, value), KINDS + [
            [[True, 0], [0, 1]], [[1, False], [0, 1]], [[1, 0], [0, True]], [[1, 0], [0]], [[1, 0]], [[1, 0], [0, 1], [0, 0]],
            [[1, 0], [0, "1"]], [[1, 0], [0, None]], [1, 0, 0, 1], [[1, 0], "01"], {0: [1, 0], 1: [0, 1]}, [[1, 0], {0: 0, 1: 1}],
            [[1, 0, 0], [0, 1, 0]], "ab", [[10 ** 29, 0], [0, 1]], [[0, 0], [0, 0]], [[[1], 0], [0, 1]]])
        check_bools(self, lambda value: is_change([], [], value), [value for value in KINDS if value not in ([], ())])
        self.assertIs(is_change([], [], []), True)
        self.assertIs(is_change([], (), ()), True)
        check_bools(self, lambda value: is_change([[1]], [[1]], value), KINDS + [[[True]], [1], [[2]], [[1, 1]]])
        self.assertIs(is_change([[1]], [[1]], [[-1]]), True)

    def test_wrong_values(self):
        check_wrong(self, is_change, {"table": TABLE, "other": TABLE, "value": ()}, {
            "table": plain(wrong_tables(), "InvalidTable"), "other": plain(wrong_tables(), "InvalidTable")})


class Change(unittest.TestCase):

    def check(self, table, other):
        told = change(table, other)
        self.assertIs(ring_model.is_change(table, other, told), True)
        self.assertIs(is_change(table, other, told), True)
        self.assertEqual([type(told)] + [type(row) for row in told], [list] * (len(table) + 1))
        self.assertTrue(all(type(number) is int and -1 <= number <= 1 for row in told for number in row))

    def test_just_where_there_is_one(self):
        tables = [evened(2, row) for row in product((-1, 0, 1, 2), repeat=3)] + [[], [[0]], [[1]], [[2]], [[-1]]]
        found = {True: 0, False: 0}
        for table in tables[::2]:
            for other in tables:
                there = bool(ring_model.small_changes(table, other))
                found[there] += 1
                if there:
                    self.check(table, other)
                else:
                    self.assertIsNone(change(table, other))
        self.assertGreater(found[True], 100)

    def test_tables_of_three(self):
        luck = Random(8)
        found = {True: 0, False: 0}
        for table in some_tables(7, 60, (3,), 2):
            for many in (1, 2, 3):
                other = table
                for _ in range(many):
                    other = ring_model.changed(other, ring_model.some_change(3, luck))
                there = bool(ring_model.small_changes(table, other))
                found[there] += 1
                if there:
                    self.check(table, other)
                else:
                    self.assertIsNone(change(table, other))
        self.assertGreater(min(found.values()), 20)

    def test_tables_that_lean(self):
        # Lists that are sums of others leave much free, but for the determinant.
        luck = Random(9)
        for many in (3, 4, 5, 6):
            for rows in (1, 2, many - 1):
                for _ in range(4):
                    some = [[luck.randint(-1, 1) for _ in range(rows)] for _ in range(many)]
                    table = ring_model.table_of(some)
                    self.check(table, ring_model.changed(table, ring_model.some_change(many, luck)))
        self.check([[0] * 6] * 6, [[0] * 6] * 6)
        self.assertIsNone(change([[0] * 6] * 6, evened(6, [0] * 20 + [1])))
        # Here the rows with the same sums have to be chosen with the others in view.
        one, other = [[0] * 6 for _ in range(6)], [[0] * 6 for _ in range(6)]
        for at, row in enumerate([[-2, 0, -1], [0, -2, 1], [-1, 1, -1]]):
            one[at][:3] = row
        for at, row in enumerate([[-1, 0, 1], [0, -1, -1], [1, -1, -2]]):
            other[at][:3] = row
        self.check(one, other)

    def test_six_lists(self):
        luck = Random(10)
        for table in some_tables(11, 12, (6,)):
            self.check(table, ring_model.changed(table, ring_model.some_change(6, luck)))
            unlike = [list(row) for row in table]
            unlike[2][2] += 1
            if ring_model.determinant(unlike) != ring_model.determinant(table):
                self.assertIsNone(change(table, unlike))

    def test_two_trees_of_one_web(self):
        for turn in FLOWING:
            some = cord_model.trees(turn) if len(turn) <= 16 else [some_tree(turn)]
            for tree in some[::5]:
                self.check(flow_table(Web(turn), some[0]), flow_table(Web(turn), tree))

    def test_just_where_rings_are_called_like_rings(self):
        blocks = [turn for many in range(2, 6) for turn in model.block_names(many)]
        found = {True: 0, False: 0}
        for one in blocks:
            for other in blocks:
                if rank(one) == rank(other):
                    table, two = [flow_table(Web(turn), some_tree(turn)) for turn in (one, other)]
                    alike = len(one) == len(other) and any(
                        ring_model.calls_rings_alike(one, other, row) for row in permutations(range(len(one) // 2)))
                    found[alike] += 1
                    if alike:
                        self.check(table, two)
                    else:
                        self.assertIsNone(change(table, two))
        self.assertGreater(min(found.values()), 10)

    def test_each_change_is_small(self):
        # Of tables of flows of blocks, also numbers beyond 1 are tried.
        for one in [model.ring(3), model.bunch(3), model.grown(4, 2), model.grown(5, 1)]:
            table = flow_table(Web(one), some_tree(one))
            if len(table) == 2:
                for numbers in product(range(-3, 4), repeat=4):
                    value = [list(numbers[:2]), list(numbers[2:])]
                    if is_change(table, table, value):
                        self.assertTrue(all(-1 <= number <= 1 for number in numbers))

    def test_turns_of_parts(self):
        for seed in range(8):
            turn = model.grown(10, seed, 0.6)
            if rank(turn) <= 6:
                other = model.scrambled(ring_model.twisted(turn, seed, 6), seed)
                self.check(flow_table(Web(turn), some_tree(turn)), flow_table(behind(Web(other)), some_tree(other)))

    def test_wrong_values(self):
        check_wrong(self, change, {"table": TABLE, "other": TABLE}, {
            "table": plain(wrong_tables(), "InvalidTable"), "other": plain(wrong_tables(), "InvalidTable")})
        for table, other in (([[1]], []), ([], [[1]]), ([[1, 0], [0, 1]], [[1]])):
            self.assertIsNone(change(table, other))
            self.assertIsNone(change(table=table, other=other))
        self.assertEqual(change([], []), [])
        self.assertEqual(change((), ()), [])
        check_kept(self, change, PAIR_TABLE, PAIR_TABLE)
        self.assertEqual(PAIR_TABLE, flow_table(Web(PAIRS), (0, 1, 2)))
        check_raised(self, ("InvalidTable", {"value": [[1, 2], [3, 1]]}), change, [[1, 2], [3, 1]], [[True]])


PAIR_TABLE = flow_table(Web(PAIRS), (0, 1, 2))


if __name__ == "__main__":
    unittest.main()

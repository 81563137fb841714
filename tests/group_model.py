"""A second, slow reading of what DOC.md says of invariants, groups, arcs, colourings, discs and the second polynomial.

It goes on where model.py and cord_model.py end, and shares no code with the package.
"""

from itertools import combinations, product
from math import gcd

import cord_model
import model
from ring_model import determinant


# Invariants, groups [8b1], [8b2]

def full_row(table):
    """By the greatest common divisors of the determinants of all lists and positions."""
    many, found, last = len(table), [], 1
    for size in range(1, many + 1):
        common = 0
        for rows in combinations(range(many), size):
            for columns in combinations(range(many), size):
                common = gcd(common, determinant([[table[row][column] for column in columns] for row in rows]))
        found.append(common // last if last else 0)
        last = common
    return found


def quick_row(table):
    """By making numbers small, without any notes of how."""
    rows, found = [list(row) for row in table], []
    while rows and any(any(row) for row in rows):
        least, at, to = min((abs(x), i, j) for i, row in enumerate(rows) for j, x in enumerate(row) if x)
        for i in range(len(rows)):
            factor = 0 if i == at else rows[i][to] // rows[at][to]
            rows[i] = [x - factor * y for x, y in zip(rows[i], rows[at])]
        for j in range(len(rows)):
            factor = 0 if j == to else rows[at][j] // rows[at][to]
            for row in rows:
                row[j] -= factor * row[to]
        if any(rows[i][to] for i in range(len(rows)) if i != at) or any(rows[at][j] for j in range(len(rows)) if j != to):
            continue
        bad = [i for i, row in enumerate(rows) for x in row if x % least]
        if bad:
            rows[at] = [x + y for x, y in zip(rows[at], rows[bad[0]])]
            continue
        found.append(least)
        rows = [row[:to] + row[to + 1:] for i, row in enumerate(rows) if i != at]
    return found + [0] * len(rows)


def times(one, other):
    return [[sum(x * y for x, y in zip(row, column)) for column in zip(*other)] for row in one]


def place_table(drawing, out=-1):
    """With the place at this position left out."""
    turn, marks = drawing
    rows = model.places(turn)
    del rows[out]

    def between(one, other):
        return [tie for tie in range(len(marks)) if len({2 * tie, 2 * tie + 1} & set(one)) == 1
                and (one == other or len({2 * tie, 2 * tie + 1} & set(other)) == 1)]
    return [[sum(marks[tie] for tie in between(one, other)) * (1 if one == other else -1) for other in rows] for one in rows]


def group(drawing):
    return [number for number in quick_row(place_table(drawing)) if number != 1]


def sum_over_trees(drawing):
    turn, marks = drawing
    total = 0
    for ties in cord_model.trees(turn):
        term = 1
        for tie in ties:
            term *= marks[tie]
        total += term
    return total


# Arcs, colourings [8b3], [8b4]

def corners_met(drawing, tie):
    """The corners where the cord that goes over meets the tie, and those where the other one does."""
    turn, marks = drawing
    near, far = [2 * tie, 2 * tie + 1], [turn.index(2 * tie), turn.index(2 * tie + 1)]
    return (near, far) if marks[tie] == 1 else (far, near)


def arcs(drawing):
    found = [{corner} for corner in model.corners(drawing[0])]
    for tie in range(len(drawing[1])):
        over = set(corners_met(drawing, tie)[0])
        both = [arc for arc in found if arc & over]
        found = [arc for arc in found if not arc & over] + [set().union(*both)]
    return sorted(tuple(sorted(arc)) for arc in found)


def is_colouring(drawing, prime, value):
    found = arcs(drawing)
    at = {corner: number for number, arc in enumerate(found) for corner in arc}
    if len(value) != len(found) or not all(0 <= number < prime for number in value):
        return False
    for tie in range(len(drawing[1])):
        (over, _), under = corners_met(drawing, tie)
        if (2 * value[at[over]] - sum(value[at[corner]] for corner in under)) % prime:
            return False
    return True


def colourings(drawing, prime):
    return [list(row) for row in product(range(prime), repeat=len(arcs(drawing))) if is_colouring(drawing, prime, row)]


# Discs [9a1], regions, the second polynomial [9a2], [9a3]

def kept_ways(turn, directions):
    found = []
    for tie in range(len(turn) // 2):
        one, other = cord_model.entered(turn, directions, tie)
        if one // 2 == other // 2:
            found.append(tie)
    return tuple(found)


def regions(turn):
    return [("place", row) for row in model.places(turn)] + [("face", row) for row in model.faces(turn)]


def region_row(drawing, directions, tie):
    turn, marks = drawing
    found = regions(turn)
    row = [[0, 0] for _ in found]
    over = cord_model.over_end(drawing, directions, tie)
    under, = [end for end in cord_model.entered(turn, directions, tie) if end != over]
    out = under ^ 2
    behind = {
        4 * tie: ("place", model.place(turn, 2 * tie)), 4 * tie + 1: ("face", model.face(turn, 2 * tie)),
        4 * tie + 2: ("place", model.place(turn, 2 * tie + 1)), 4 * tie + 3: ("face", model.face(turn, 2 * tie + 1))}
    end = out
    for plain, power in ((0, 1), (0, -1), (1, 0), (-1, 0)):
        at = found.index(behind[end])
        row[at][0] += plain
        row[at][1] += power
        end = 4 * tie + (end + 1) % 4
    return [tuple(pair) for pair in row]


def poly_determinant(rows):
    """Of dicts of numbers by exponents, developed by the first row, and so on."""
    known = {(): {0: 1}}
    for size in range(1, len(rows) + 1):
        new = {}
        row = rows[len(rows) - size]
        for columns in combinations(range(len(rows)), size):
            total = {}
            for at, column in enumerate(columns):
                left = columns[:at] + columns[at + 1:]
                total = cord_model.added(total, cord_model.multiplied(row[column], known[left]), (-1) ** at)
            new[columns] = total
        known = new
    return known[tuple(range(len(rows)))]


def second(drawing, directions, corner=0):
    turn, marks = drawing
    if not marks:
        return {0: 1}
    found = regions(turn)
    gone = [found.index(("place", model.place(turn, corner))), found.index(("face", model.face(turn, turn[corner])))]
    rows = [[
        {exponent: number for exponent, number in enumerate(pair) if number}
        for at, pair in enumerate(region_row(drawing, directions, tie)) if at not in gone
    ] for tie in range(len(marks))]
    told = poly_determinant(rows)
    if not told:
        return {}
    least = min(told)
    return {exponent - least: number if told[least] > 0 else -number for exponent, number in told.items()}

"""A second, slow reading of what DOC.md says of leaving and taking, spans, rings, rows of turns, flows and tables.

It goes on where model.py and cord_model.py end, and shares no code with the package.
"""

from functools import lru_cache
from itertools import permutations, product
from random import Random

import cord_model
import model


# Leaving and taking [6b4]

def by_leaving(drawing, order):
    turn, marks = drawing
    if not marks:
        return {0: 1}
    tie = list(order)[0]
    mark, left = marks[tie], tuple(one for at, one in enumerate(marks) if at != tie)
    later = [other - (other > tie) for other in order if other != tie]
    if model.is_loop(turn, tie):
        return cord_model.multiplied({3 * mark: -1}, by_leaving((model.taken(turn, tie), left), later))
    if model.is_bridge(turn, tie):
        return cord_model.multiplied({-3 * mark: -1}, by_leaving((model.shrunk(turn, tie), left), later))
    shrunk = cord_model.multiplied({mark: 1}, by_leaving((model.shrunk(turn, tie), left), later))
    return cord_model.added(
        shrunk, cord_model.multiplied({-mark: 1}, by_leaving((model.taken(turn, tie), left), later)))


# Spans [7a]

def span(drawing):
    found = cord_model.bracket(drawing)
    return max(found) - min(found) if found else 0


def even_circles(drawing):
    turn, marks = drawing
    return tuple(
        cord_model.circles(turn, [tie for tie, one in enumerate(marks) if one == mark]) for mark in (1, -1))


def is_full(drawing):
    turn, marks = drawing
    return all(len(ties) >= 2 and len({marks[tie] for tie in ties}) == 1 for ties in model.blocks(turn))


def less_papers(drawing):
    """All papers that tell that the drawing is not full."""
    turn, marks = drawing
    found = [("less", "single", ties[0]) for ties in model.blocks(turn) if len(ties) == 1]
    return found + [
        ("less", "mixed", one, other) for ties in model.blocks(turn) for one in ties for other in ties
        if one < other and marks[one] != marks[other]]


def full_paper(drawing):
    return ("full", [(ties, drawing[1][ties[0]]) for ties in model.blocks(drawing[0])])


def span_paper(drawing):
    """The one that is told: that of the first block that decides."""
    turn, marks = drawing
    for ties in model.blocks(turn):
        if len(ties) == 1:
            return ("less", "single", ties[0])
        for tie in ties:
            if marks[tie] != marks[ties[0]]:
                return ("less", "mixed", ties[0], tie)
    return full_paper(drawing)


# Even TIES, rows of turns [7b]

@lru_cache(None)
def even_ones(turn):
    return [ties for ties in model.subsets(range(len(turn) // 2)) if cord_model.is_even(turn, ties)]


def even_rows(turn):
    found = even_ones(turn)
    heads = {ties[0] for ties in found if ties}
    rows = {head: [ties for ties in found if ties and ties[0] == head and heads & set(ties) == {head}] for head in heads}
    assert all(len(some) == 1 for some in rows.values())
    return sorted(some[0] for some in rows.values())


def sum_of(one, other):
    return tuple(sorted(set(one) ^ set(other)))


def is_turn_row(turn, other, value):
    """Whether a value of the right kinds is a turn row."""
    rows, darts = value
    if len(rows) > 200:
        return False
    for ties, letter in rows:
        if letter not in ("a", "b", "c") or not model.is_part(turn, ties):
            return False
        turn = model.turned(turn, ties, letter)
    return model.is_carrying(turn, other, list(darts)) and all(to // 2 == at // 2 for at, to in enumerate(darts))


def twisted(turn, seed, many):
    """What some turns of parts make of the block, some darts called like their other ends."""
    luck = Random(seed)
    for _ in range(many):
        turn = model.turned(turn, luck.choice(model.parts(turn)), luck.choice("abc"))
    return flipped(turn, luck)


def flipped(turn, luck):
    sides = [luck.randrange(2) for _ in range(len(turn) // 2)]
    return model.called(turn, [dart ^ sides[dart // 2] for dart in range(len(turn))])


# Flows [8a1], [8a2]

def is_flow(turn, row):
    for place in model.places(turn):
        come = sum(row[dart // 2] for dart in place if dart % 2 == 1)
        if come != sum(row[dart // 2] for dart in place if dart % 2 == 0):
            return False
    return True


def flow_row(turn, tree, tie):
    ring, = [row for row in model.rings(turn) if tie in row and set(row) <= {tie, *tree}]
    for signs in product((1, -1), repeat=len(ring)):
        row = [0] * (len(turn) // 2)
        for one, sign in zip(ring, signs):
            row[one] = sign
        if row[tie] == 1 and is_flow(turn, row):
            return row
    return None


def flow_rows(turn, tree):
    return [flow_row(turn, tree, tie) for tie in range(len(turn) // 2) if tie not in tree]


def table_of(rows):
    return [[sum(x * y for x, y in zip(one, other)) for other in rows] for one in rows]


# Tables [8a3], [8a4]

def determinant(table):
    """By all sequences of the lists."""
    total = 0
    for row in permutations(range(len(table))):
        term = (-1) ** sum(row[at] > row[later] for at in range(len(row)) for later in range(at + 1, len(row)))
        for at, to in enumerate(row):
            term *= table[at][to]
        total += term
    return total


def weight(table, row):
    many = range(len(table))
    return sum(row[i] * table[i][j] * row[j] for i in many for j in many)


def lone_rows(table):
    rows = [row for row in product((-1, 0, 1), repeat=len(table)) if any(row)]
    found = []
    for row in rows:
        others = [
            one for one in rows
            if [x == 0 for x in one] == [x == 0 for x in row] and one not in (row, tuple(-x for x in row))]
        if [x for x in row if x][0] == 1 and all(weight(table, row) < weight(table, one) for one in others):
            found.append(row)
    return sorted(found)


def changed(table, change):
    """What the table becomes by the change."""
    many = range(len(table))
    return [
        [sum(change[i][k] * table[k][m] * change[j][m] for k in many for m in many) for j in many] for i in many]


def is_change(table, other, value):
    if len(value) != len(table) or len(other) != len(table) or any(len(row) != len(table) for row in value):
        return False
    return determinant(value) in (1, -1) and changed(table, value) == [list(row) for row in other]


def small_changes(table, other):
    """All changes with -1, 0 and 1 alone."""
    if len(table) != len(other):
        return []
    rows = list(product((-1, 0, 1), repeat=len(table)))
    fit = [[row for row in rows if weight(table, row) == other[at][at]] for at in range(len(table))]
    return [value for value in product(*fit) if is_change(table, other, value)]


def some_change(many, luck, most=1):
    """Lists of so many INTEGERS, of determinant 1 or -1."""
    while True:
        rows = [[luck.randint(-most, most) for _ in range(many)] for _ in range(many)]
        if determinant(rows) in (1, -1):
            return rows


def ties_called(ties, calling):
    return tuple(sorted(calling[tie] for tie in ties))


def calls_rings_alike(turn, other, calling):
    """Whether ties called so have just their rings called like rings of the other one."""
    return sorted(ties_called(ties, calling) for ties in model.rings(turn)) == sorted(model.rings(other))

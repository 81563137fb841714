"""A second, slow reading of what DOC.md says of drawings, moves, cords, signs, states, brackets and trees.

A drawing is a pair of a turn and a tuple of marks. It goes on where model.py ends, and shares no code with
the package.
"""

from functools import lru_cache
from itertools import product
from random import Random

import model

WORDS = ["loop", "hang", "double", "split", "unloop", "unhang", "undouble", "unsplit", "star", "triangle"]
OTHER_WORD = {"loop": "hang", "double": "split", "unloop": "unhang", "undouble": "unsplit", "star": "triangle"}
OTHER_WORD.update({other: word for word, other in OTHER_WORD.items()})


# Drawings [11], [5a1]

def negated(drawing):
    return drawing[0], tuple(-mark for mark in drawing[1])


def from_behind(drawing):
    return model.behind(drawing[0]), drawing[1]


def other_colour(drawing):
    return model.about(drawing[0]), tuple(-mark for mark in drawing[1])


def are_alike(one, other):
    return any(
        all(other[1][row[dart] // 2] == one[1][dart // 2] for dart in range(len(row)))
        for row in model.carryings(one[0], other[0])
    )


def all_marks(turn):
    return list(product((1, -1), repeat=len(turn) // 2))


def some_marks(turn, seed):
    luck = Random(seed)
    return tuple(luck.choice((1, -1)) for _ in range(len(turn) // 2))


def drawings_up_to(many):
    """All drawings of no more ties, each web called otherwise."""
    found = []
    for size in range(many + 1):
        for seed, turn in enumerate(model.names(size)):
            turn = model.scrambled(turn, seed)
            found += [(turn, marks) for marks in all_marks(turn)]
    return found


def some_drawings(sizes, every=1):
    """Drawings of these sizes, one for each web of the size (of every so many)."""
    found = []
    for size in sizes:
        for seed, turn in enumerate(model.names(size)[::every]):
            turn = model.scrambled(turn, seed)
            found.append((turn, some_marks(turn, seed)))
    return found


# Moves [5a2], [5a3], [5a4]

def between(rows, corner, new):
    """The places with the new darts between the corner's dart and the next one."""
    if rows == [()]:
        return [list(new)]
    return [sum([[dart, *new] if dart == corner else [dart] for dart in row], []) for row in rows]


def is_mark(value):
    return type(value) is int and value in (1, -1)


def _is_count(value, limit):
    return type(value) is int and 0 <= value < limit


def faces_or_places(turn, word):
    return model.faces(turn) if word in ("undouble", "star") else model.places(turn)


def pair_of(turn, word, one, other):
    """The darts of two ties that make a face, or a place, alone; None if there are none."""
    for row in faces_or_places(turn, word):
        if len(row) == 2 and sorted(dart // 2 for dart in row) == [one, other]:
            return sorted(row)
    return None


def is_move(drawing, value):
    turn, marks = drawing
    size, many = max(1, len(turn)), len(marks)
    if type(value) is not tuple or len(value) < 2 or type(value[0]) is not str or value[0] not in WORDS:
        return False
    word, told = value[0], value[1:]
    if word in ("loop", "hang"):
        return len(told) == 2 and _is_count(told[0], size) and is_mark(told[1])
    if word in ("double", "split"):
        if len(told) != 3 or not _is_count(told[0], size) or not _is_count(told[1], size) or not is_mark(told[2]):
            return False
        if word == "double":
            return model.are_facing(turn, told[0], told[1])
        return not turn or model.place(turn, told[0]) == model.place(turn, told[1])
    if word in ("unloop", "unhang"):
        if len(told) != 1 or not _is_count(told[0], many):
            return False
        one, other = 2 * told[0], 2 * told[0] + 1
        if word == "unloop":
            return turn[one] == other or turn[other] == one
        return (one,) in model.places(turn) or (other,) in model.places(turn)
    if word in ("undouble", "unsplit"):
        if len(told) != 2 or not _is_count(told[0], many) or not _is_count(told[1], many) or told[0] >= told[1]:
            return False
        return marks[told[0]] != marks[told[1]] and pair_of(turn, word, *told) is not None
    if len(told) != 1 or not _is_count(told[0], len(turn)):
        return False
    row = [one for one in faces_or_places(turn, word) if told[0] in one][0]
    ties = {dart // 2 for dart in row}
    return min(row) == told[0] and len(row) == len(ties) == 3 and len({marks[tie] for tie in ties}) == 2


def all_moves(drawing):
    """All moves of the drawing."""
    turn, marks = drawing
    corners, ties = model.corners(turn), range(len(marks))
    values = [(word, corner, mark) for word in WORDS[:2] for corner in corners for mark in (1, -1)]
    values += [(word, one, other, mark) for word in WORDS[2:4] for one in corners for other in corners for mark in (1, -1)]
    return [value for value in values if is_move(drawing, value)] + small_ones(drawing)


def small_ones(drawing):
    """All moves that take away, and of three ties, whether they can be done or not."""
    turn, marks = drawing
    ties = range(len(marks))
    values = [(word, tie) for word in WORDS[4:6] for tie in ties]
    values += [(word, one, other) for word in WORDS[6:8] for one in ties for other in ties]
    values += [(word, dart) for word in WORDS[8:] for dart in range(len(turn))]
    return [value for value in values if is_move(drawing, value)]


def does_part(drawing, move):
    turn = drawing[0]
    if move[0] == "undouble":
        one, other, left = move[1], move[2], {0}
        start, goal = model.place(turn, 2 * one), model.place(turn, 2 * one + 1)
        found = [start]
        for row in found:
            for dart in row:
                far = model.place(turn, dart ^ 1)
                if dart // 2 not in (one, other) and far not in found:
                    found.append(far)
        return goal not in found
    if move[0] == "unsplit":
        p, q = pair_of(turn, *move)
        return model.place(turn, p ^ 1) == model.place(turn, q ^ 1)
    return False


def moved(drawing, move):
    """What the move makes of the drawing; None if it parts it."""
    turn, marks = drawing
    word, new, rows = move[0], len(turn), model.places(turn)
    if does_part(drawing, move):
        return None
    if word == "loop":
        return model.turn_of(between(rows, move[1], [new, new + 1])), marks + (move[2],)
    if word == "hang":
        return model.turn_of(between(rows, move[1], [new]) + [[new + 1]]), marks + (move[2],)
    if word == "double":
        if move[1] == move[2]:
            rows = between(rows, move[1], [new, new + 2, new + 3, new + 1])
        else:
            rows = between(between(rows, move[1], [new, new + 2]), move[2], [new + 3, new + 1])
        return model.turn_of(rows), marks + (move[3], -move[3])
    if word == "split":
        return model.turn_of(_split(turn, rows, *move[1:3])), marks + (move[3], -move[3])
    if word in ("star", "triangle"):
        return _moved_three(drawing, move)
    gone = move[1:]
    if word == "unsplit":
        p, q = pair_of(turn, *move)
        if p // 2 != move[1]:
            p, q = q, p
        near = [row for row in rows if p in row or p ^ 1 in row or q ^ 1 in row]
        merged = model.from_on(model.place(turn, p ^ 1), p ^ 1)[1:] + model.from_on(model.place(turn, q ^ 1), q ^ 1)[1:]
        rows = [row for row in rows if row not in near] + [merged]
    return model._less(rows, gone), tuple(mark for tie, mark in enumerate(marks) if tie not in gone)


def _split(turn, rows, one, other):
    new = len(turn)
    if not turn:
        return [[0], [1, 2], [3]]
    place = model.place(turn, one)
    others = [row for row in rows if row != place]
    first, at = [], turn[one]
    while True:
        first.append(at)
        if at == other:
            break
        at = turn[at]
    last = [dart for dart in model.from_on(place, turn[other]) if dart not in first]
    return others + [first + [new], [new + 1, new + 2], last + [new + 3]]


def _moved_three(drawing, move):
    turn, marks = drawing
    if move[0] == "star":
        x = move[1]
        y = turn[x ^ 1]
        z = turn[y ^ 1]
        three, rows = (x, y, z), [list(row) for row in model.places(turn)]
        # All three pairs are looked for as they stand ahead of the move.
        for come, pair in ((x, (y ^ 1, z)), (y, (z ^ 1, x)), (z, (x ^ 1, y))):
            assert turn[pair[0]] == pair[1]
        for row in rows:
            for at, dart in enumerate(list(row)):
                row[at] = {y ^ 1: ["new", x], z ^ 1: ["new", y], x ^ 1: ["new", z]}.get(dart, dart)
        rows = [[dart for dart in row if dart not in three] for row in rows]
        rows = [[dart[1] if isinstance(dart, list) else dart for dart in row] for row in rows]
        rows.append([x ^ 1, z ^ 1, y ^ 1])
    else:
        p = move[1]
        q = turn[p]
        r = turn[q]
        three, rows = (p, q, r), [row for row in model.places(turn) if p not in row]
        new = {p ^ 1: [r, q ^ 1], q ^ 1: [p, r ^ 1], r ^ 1: [q, p ^ 1]}
        rows = [sum([new.get(dart, [dart]) for dart in row], []) for row in rows]
    ties = {dart // 2 for dart in three}
    return model.turn_of(rows), tuple(-mark if tie in ties else mark for tie, mark in enumerate(marks))


def can_be_done(drawing, move):
    if not is_move(drawing, move) or does_part(drawing, move):
        return False
    return len(moved(drawing, move)[1]) <= 14


def small_moves(drawing):
    return sorted(move for move in small_ones(drawing) if can_be_done(drawing, move))


def other_move(drawing, move):
    """The move of the other colour that goes along with this one: [5a5]."""
    word, told = move[0], list(move[1:])
    if word in WORDS[:4]:
        told = [dart ^ 1 if drawing[0] else 0 for dart in told[:-1]] + [-told[-1]]
    if word in WORDS[2:4]:
        told[0], told[1] = told[1], told[0]
    return (OTHER_WORD[word], *told)


def some_laying(drawing, luck, words):
    """Some move that lays on ties."""
    corners = model.corners(drawing[0])
    while True:
        word = luck.choice(words)
        told = [luck.choice(corners) for _ in range(1 if word in WORDS[:2] else 2)]
        move = (word, *told, luck.choice((1, -1)))
        if is_move(drawing, move):
            return move


def moves_in_plenty(drawing, seed, many=12):
    """All moves that lay on nothing, and some of those that lay on ties."""
    luck = Random(seed)
    return small_ones(drawing) + [some_laying(drawing, luck, WORDS[:4]) for _ in range(many)]


def wandered(drawing, seed, many, most=14):
    """Moves that can be done one behind the other, and the drawings that they make."""
    luck, moves, found = Random(seed), [], [drawing]
    for _ in range(many):
        choices = [move for move in small_ones(found[-1]) if can_be_done(found[-1], move)]
        room = most - len(found[-1][1])
        big = [some_laying(found[-1], luck, WORDS[at:at + 1]) for at in range(4) if room >= 1 + (at > 1)]
        if not choices and not big:
            break
        move = luck.choice(luck.choice([row for row in (choices, big) if row]))
        moves.append(move)
        found.append(moved(found[-1], move))
    return moves, found


# Cords, directions, signs [11], [5b]

def ends_joined(turn):
    """Each end with the one to which a corner joins it."""
    to = {}
    for dart in range(len(turn)):
        to[2 * dart] = 2 * turn[dart] + 1
        to[2 * turn[dart] + 1] = 2 * dart
    return to


def way_from(turn, end):
    """The ends by which the cord comes in that comes in by this one, from it on."""
    to, found = ends_joined(turn), [end]
    while to[found[-1] ^ 2] != end:
        found.append(to[found[-1] ^ 2])
    return tuple(found)


def told_cord(ends):
    """A cord that comes in by these ends, one behind the other, as it is told."""
    back = [end ^ 2 for end in reversed(ends)]
    row = min((list(ends), back), key=min)
    return model.from_on(row, min(row))


def cords(turn):
    return sorted({told_cord(way_from(turn, end)) for end in range(2 * len(turn))}) or [()]


def all_directions(turn):
    return list(product((0, 1), repeat=len(cords(turn))))


def came_in(turn, directions):
    """All ends by which cords come in."""
    return {end ^ 2 if way else end for cord, way in zip(cords(turn), directions) for end in cord}


def directions_of(turn, ends):
    """The directions by which cords come in by just these ends."""
    found = [ways for ways in all_directions(turn) if came_in(turn, ways) == set(ends)]
    return found[0]


def entered(turn, directions, tie):
    return tuple(sorted(end for end in came_in(turn, directions) if end // 4 == tie))


def signs(drawing, directions):
    turn, marks = drawing
    found = []
    for tie, mark in enumerate(marks):
        one, other = entered(turn, directions, tie)
        found.append(mark if {one, other} in ({4 * tie, 4 * tie + 1}, {4 * tie + 2, 4 * tie + 3}) else -mark)
    return found


def over_end(drawing, directions, tie):
    return [end for end in entered(drawing[0], directions, tie) if end % 2 == (0 if drawing[1][tie] == 1 else 1)][0]


def crossings(turn, one, other):
    """The ties at which both of two cords come in, by their positions."""
    rows = [{end // 4 for end in cords(turn)[at]} for at in (one, other)]
    return rows[0] & rows[1]


def linking(drawing, directions, one, other):
    total = sum(signs(drawing, directions)[tie] for tie in crossings(drawing[0], one, other))
    assert total % 2 == 0
    return total // 2


def is_even(turn, ties):
    """Whether each place has an even number of darts of these ties."""
    return all(len([dart for dart in row if dart // 2 in ties]) % 2 == 0 for row in model.places(turn))


def is_cut(turn, ties):
    """Whether these are just the ties that lead from some places to the others."""
    rows = model.places(turn)
    for some in model.subsets(rows):
        across = [tie for tie in range(len(turn) // 2)
                  if (model.place(turn, 2 * tie) in some) != (model.place(turn, 2 * tie + 1) in some)]
        if tuple(across) == tuple(ties):
            return True
    return False


# Sums of powers, as dicts, states, brackets [6a]

def cleaned(numbers):
    return {exponent: number for exponent, number in sorted(numbers.items()) if number}


def added(one, other, factor=1):
    return cleaned({key: one.get(key, 0) + factor * other.get(key, 0) for key in {*one, *other}})


def multiplied(one, other):
    total = {}
    for left in one:
        for right in other:
            total[left + right] = total.get(left + right, 0) + one[left] * other[right]
    return cleaned(total)


def mirrored(one):
    return cleaned({-exponent: number for exponent, number in one.items()})


def circles(turn, kept):
    if not turn:
        return 1
    to, found = ends_joined(turn), 0
    left = set(range(2 * len(turn)))
    while left:
        found += 1
        end = min(left)
        while end in left:
            tie, at = divmod(end, 4)
            far = 4 * tie + ({1: 2, 2: 1, 3: 0, 0: 3} if tie in kept else {0: 1, 1: 0, 2: 3, 3: 2})[at]
            left -= {end, far}
            end = to[far]
    return found


def bracket(drawing):
    turn, marks = drawing
    total = {}
    for kept in model.subsets(range(len(marks))):
        term = {sum(mark if tie in kept else -mark for tie, mark in enumerate(marks)): 1}
        for _ in range(circles(turn, kept) - 1):
            term = multiplied(term, {2: -1, -2: -1})
        total = added(total, term)
    return total


def normed(drawing, directions):
    total = sum(signs(drawing, directions))
    return {exponent - 3 * total: -number if total % 2 else number for exponent, number in bracket(drawing).items()}


# Trees [6b]

@lru_cache(None)
def trees(turn):
    """Ties of which no ring can be made, and which lead from each place to each other one."""
    rows = [set(row) for row in model.rings(turn)]
    return sorted(
        ties for ties in model.subsets(range(len(turn) // 2))
        if not any(row <= set(ties) for row in rows) and len(pieces(turn, ties)) == 1
    )


def pieces(turn, ties):
    """The places, in sets such that these ties lead from each to each other one of the set."""
    found = [{row} for row in model.places(turn)]
    for tie in ties:
        both = [piece for piece in found if piece & model.tie_places(turn, [tie])]
        found = [piece for piece in found if piece not in both] + [set().union(*both)]
    return found


def active(turn, order, tree):
    many = len(turn) // 2
    order = list(order)
    inner, outer = [], []
    for tie in range(many):
        if tie in tree:
            one, other = pieces(turn, [row for row in tree if row != tie])
            rivals = [rival for rival in range(many) if all(
                model.tie_places(turn, [rival]) & piece for piece in (one, other))]
            found = inner
        else:
            ring, = [row for row in model.rings(turn) if tie in row and set(row) <= {tie, *tree}]
            rivals, found = list(ring), outer
        if min(rivals, key=order.index) == tie:
            found.append(tie)
    return tuple(inner), tuple(outer)


def table(turn, order):
    found = {}
    for tree in trees(turn):
        inner, outer = active(turn, order, tree)
        found[len(inner), len(outer)] = found.get((len(inner), len(outer)), 0) + 1
    return sorted(found.items())


def weight(drawing, order, tree):
    """The product of what all ties weigh for the tree."""
    turn, marks = drawing
    inner, outer = active(turn, order, tree)
    term = {0: 1}
    for tie, mark in enumerate(marks):
        if tie in tree:
            term = multiplied(term, {-3 * mark: -1} if tie in inner else {mark: 1})
        else:
            term = multiplied(term, {3 * mark: -1} if tie in outer else {-mark: 1})
    return term


def bracket_by_trees(drawing, order):
    total = {}
    for tree in trees(drawing[0]):
        total = added(total, weight(drawing, order, tree))
    return total

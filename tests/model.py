"""A second, slow reading of DOC.md over plain turns, by which the tests judge the program.

It takes each sentence as literally as it can, and shares no code with the package.
"""

from functools import lru_cache
from itertools import combinations
from random import Random


# Webs [5], names [6]

def cycles(turn):
    left, found = list(range(len(turn))), []
    while left:
        cycle, dart = [left[0]], turn[left[0]]
        while dart != left[0]:
            cycle.append(dart)
            dart = turn[dart]
        left = [dart for dart in left if dart not in cycle]
        found.append(tuple(cycle))
    return found if found else [()]


def about(turn):
    return tuple(turn[dart ^ 1] for dart in range(len(turn)))


def behind(turn):
    return tuple(turn.index(dart) for dart in range(len(turn)))


def places(turn):
    return cycles(turn)


def faces(turn):
    return cycles(about(turn))


def place(turn, dart):
    return [one for one in places(turn) if dart in one][0]


def face(turn, dart):
    return [one for one in faces(turn) if dart in one][0]


def is_turn(value):
    """Of a tuple: whether it is the turn of a web."""
    size = len(value)
    if size % 2 or size > 28 or any(type(dart) is not int for dart in value) or sorted(value) != list(range(size)):
        return False
    group = list(range(size))
    for _ in range(size):
        for dart in range(size):
            low = min(group[dart], group[dart ^ 1], group[value[dart]])
            group[dart] = group[dart ^ 1] = group[value[dart]] = low
    return len(set(group)) <= 1 and len(places(value)) - size // 2 + len(faces(value)) == 2


def is_loop(turn, tie):
    return place(turn, 2 * tie) == place(turn, 2 * tie + 1)


def is_bridge(turn, tie):
    return face(turn, 2 * tie) == face(turn, 2 * tie + 1)


def is_chart(turn):
    ties = range(len(turn) // 2)
    return len(ties) >= 2 and not any(is_loop(turn, tie) or is_bridge(turn, tie) for tie in ties)


def called(turn, darts):
    new = {darts[dart]: darts[turn[dart]] for dart in range(len(turn))}
    return tuple(new[dart] for dart in range(len(turn)))


def turn_from(turn, dart):
    number = {dart: 0, dart ^ 1: 1}
    for new in range(len(turn)):
        old = [one for one in number if number[one] == new][0]
        if turn[old] not in number:
            number[turn[old]], number[turn[old] ^ 1] = len(number), len(number) + 1
    return called(turn, number)


def name(turn):
    return min([turn_from(turn, dart) for dart in range(len(turn))], default=())


def carryings(turn, other):
    if len(turn) != len(other):
        return []
    if not turn:
        return [[]]
    found = []
    for start in range(len(other)):
        to, todo = {0: start}, [0]
        while todo:
            dart = todo.pop()
            for one, image in ((dart ^ 1, to[dart] ^ 1), (turn[dart], other[to[dart]])):
                if one not in to:
                    to[one] = image
                    todo.append(one)
        row = [to[dart] for dart in range(len(turn))]
        if is_carrying(turn, other, row):
            found.append(row)
    return found


def is_carrying(turn, other, row):
    if len(turn) != len(other) or sorted(row) != list(range(len(other))):
        return False
    return all(row[dart ^ 1] == row[dart] ^ 1 and row[turn[dart]] == other[row[dart]] for dart in range(len(turn)))


# Edits [1b]

def turn_of(rows):
    turn = {}
    for row in rows:
        for at, dart in enumerate(row):
            turn[dart] = row[(at + 1) % len(row)]
    return tuple(turn[dart] for dart in range(len(turn)))


def corners(turn):
    return list(range(max(1, len(turn))))


def are_facing(turn, one, other):
    return not turn or face(turn, turn[one]) == face(turn, turn[other])


def _put(rows, new, ahead):
    """Puts the new dart right behind the one that is to be ahead of it."""
    return [sum(([dart, new] if dart == ahead else [dart] for dart in row), []) for row in rows]


def laid(turn, one, other):
    new = len(turn)
    if not turn:
        return (1, 0)
    rows = _put(places(turn), new, one)
    return turn_of(_put(rows, new + 1, new if one == other else other))


def hung(turn, corner):
    new = len(turn)
    if not turn:
        return (0, 1)
    return turn_of(_put(places(turn), new, corner) + [[new + 1]])


def stretched(turn, tie):
    new, far = len(turn), 2 * tie + 1
    rows = [[new + 1 if dart == far else dart for dart in row] for row in places(turn)]
    return turn_of(rows + [[far, new]])


def _less(rows, gone):
    """The turn of the rows, with the ties that are gone left out and later ones called less."""
    def less(dart):
        return dart - 2 * len([tie for tie in gone if tie < dart // 2])
    return turn_of([[less(dart) for dart in row if dart // 2 not in gone] for row in rows])


def taken(turn, tie):
    return _less(places(turn), [tie])


def from_on(row, dart):
    at = list(row).index(dart)
    return tuple(row[at:]) + tuple(row[:at])


def shrunk(turn, tie):
    one, other = place(turn, 2 * tie), place(turn, 2 * tie + 1)
    rows = [row for row in places(turn) if row not in (one, other)]
    return _less(rows + [from_on(one, 2 * tie)[1:] + from_on(other, 2 * tie + 1)[1:]], [tie])


@lru_cache(None)
def names(many):
    """The names of all webs of so many ties."""
    if many == 0:
        return [()]
    found = {}
    for turn in names(many - 1):
        for corner in corners(turn):
            found[name(hung(turn, corner))] = True
            for other in corners(turn):
                if are_facing(turn, corner, other):
                    found[name(laid(turn, corner, other))] = True
    return sorted(found)


@lru_cache(None)
def block_names(many):
    """The names of all blocks of so many ties, two at least."""
    if many == 2:
        return [name((2, 3, 0, 1))]
    found = {}
    for turn in block_names(many - 1):
        for tie in range(many - 1):
            found[name(stretched(turn, tie))] = True
        for one in corners(turn):
            for other in corners(turn):
                if are_facing(turn, one, other) and place(turn, one) != place(turn, other):
                    found[name(laid(turn, one, other))] = True
    return sorted(found)


def scrambled(turn, seed):
    """The turn with its ties called in another sequence, some darts exchanged with other ends."""
    luck = Random(seed)
    ties = list(range(len(turn) // 2))
    luck.shuffle(ties)
    sides = [luck.randrange(2) for _ in ties]
    return called(turn, [2 * ties[dart // 2] + (dart % 2 ^ sides[dart // 2]) for dart in range(len(turn))])


def webs_up_to(many):
    """All webs of no more ties, and each once more, called otherwise."""
    plain = [turn for size in range(many + 1) for turn in names(size)]
    return plain + [scrambled(turn, seed) for seed, turn in enumerate(plain)]


def blocks_up_to(many):
    """All blocks of no more ties, and each once more, called otherwise."""
    plain = [turn for size in range(2, many + 1) for turn in block_names(size)]
    return plain + [scrambled(turn, seed) for seed, turn in enumerate(plain)]


def blocks_in_plenty():
    """All blocks of no more than six ties, twice, and some of seven ties."""
    return blocks_up_to(6) + [scrambled(turn, seed) for seed, turn in enumerate(block_names(7))][::3]


def grown(many, seed, stretch=0.5):
    """Some block of so many ties."""
    luck, turn = Random(seed), (2, 3, 0, 1)
    while len(turn) < 2 * many:
        if luck.random() < stretch:
            turn = stretched(turn, luck.randrange(len(turn) // 2))
        else:
            turn = laid(turn, *luck.choice([
                (one, other) for one in corners(turn) for other in corners(turn)
                if are_facing(turn, one, other) and place(turn, one) != place(turn, other)
            ]))
    return scrambled(turn, seed)


def ring(many):
    turn = (1, 0)
    for _ in range(many - 1):
        turn = stretched(turn, 0)
    return turn


def bunch(many):
    return about(ring(many))


def star(many):
    turn = ()
    for _ in range(many):
        turn = hung(turn, 0)
    return turn


# Rings, blocks of a web, places that part it [7], [2a]

def subsets(items):
    return [row for size in range(len(items) + 1) for row in combinations(items, size)]


def tie_places(turn, ties):
    return {place(turn, dart) for tie in ties for dart in (2 * tie, 2 * tie + 1)}


def _in_one_piece(turn, ties):
    found = [ties[0]]
    for tie in found:
        near = tie_places(turn, [tie])
        found += [other for other in ties if other not in found and near & tie_places(turn, [other])]
    return len(found) == len(ties)


@lru_cache(None)
def rings(turn):
    found = []
    for ties in subsets(range(len(turn) // 2)):
        if len(ties) == 1 and is_loop(turn, ties[0]):
            found.append(ties)
        if len(ties) >= 2 and _in_one_piece(turn, ties) and all(
            len([dart for dart in row if dart // 2 in ties]) == 2 for row in tie_places(turn, ties)
        ):
            found.append(ties)
    return sorted(found)


def blocks(turn):
    ties, circles = range(len(turn) // 2), rings(turn)
    return sorted({
        tuple(other for other in ties if other == tie or any(tie in row and other in row for row in circles))
        for tie in ties
    })


def parting(turn):
    ties, found = range(len(turn) // 2), set()
    for some in subsets(ties):
        others = [tie for tie in ties if tie not in some]
        if some and others:
            common = tie_places(turn, some) & tie_places(turn, others)
            if len(common) == 1:
                found |= common
    return sorted(found)


def is_block(turn):
    return is_chart(turn) and not parting(turn)


def block_web(turn, ties):
    others = [tie for tie in range(len(turn) // 2) if tie not in ties]
    return _less(places(turn), others)


def joined(turn, corner, other, its):
    shift = len(turn)
    if not turn or not other:
        return turn + tuple(dart + shift for dart in other)
    rows = [[dart + shift for dart in row] for row in places(other)]
    come = [row for row in rows if its + shift in row][0]
    come = from_on(come, other[its] + shift)
    stay = place(turn, corner)
    both = from_on(stay, turn[corner])[:-1] + (corner,) + come
    return turn_of([row for row in places(turn) if row != stay] + [
        row for row in rows if its + shift not in row] + [both])


# Block papers [1b4], [1b5]

def _is_count(value, limit):
    return type(value) is int and 0 <= value < limit


def is_ties(turn, value):
    return type(value) is tuple and all(_is_count(tie, len(turn) // 2) for tie in value) and (
        list(value) == sorted(set(value)))


def row_done(turn, row):
    """What the row makes of the turn, or None."""
    if type(row) is not tuple or len(row) not in (2, 3) or type(row[0]) is not str:
        return None
    if len(row) == 2 and row[0] == "stretch" and _is_count(row[1], len(turn) // 2):
        return stretched(turn, row[1])
    if len(row) == 3 and row[0] == "lay" and _is_count(row[1], len(turn)) and _is_count(row[2], len(turn)):
        if are_facing(turn, row[1], row[2]) and place(turn, row[1]) != place(turn, row[2]):
            return laid(turn, row[1], row[2])
    return None


def is_block_paper(turn, value):
    if type(value) is not tuple or len(value) != 3 or type(value[0]) is not str:
        return False
    if value[0] == "block":
        rows, darts = value[1], value[2]
        if type(rows) not in (list, tuple) or len(rows) > 12 or type(darts) not in (list, tuple):
            return False
        built = (2, 3, 0, 1)
        for row in rows:
            built = row_done(built, row)
            if built is None:
                return False
        return all(type(dart) is int for dart in darts) and is_carrying(built, turn, list(darts))
    if value[0] != "parted" or type(value[1]) is not tuple or any(type(dart) is not int for dart in value[1]):
        return False
    if not is_ties(turn, value[2]) or len(value[2]) in (0, len(turn) // 2):
        return False
    others = [tie for tie in range(len(turn) // 2) if tie not in value[2]]
    return tie_places(turn, value[2]) & tie_places(turn, others) == {value[1]}


# Necklaces and bunches [10]

def necklaces(turn):
    found = []
    for one, other in combinations(faces(turn), 2):
        common = [row for row in places(turn) if set(row) & set(one) and set(row) & set(other)]
        if len(common) >= 3:
            found.append(_told(_pieces(turn, one, other, common)))
    return sorted(found)


def bunches(turn):
    return necklaces(about(turn))


def _pieces(turn, one, other, common):
    """The pieces from each place that both faces have to the next one, along the first face."""
    order = [place(turn, dart) for dart in one if place(turn, dart) in common]
    pieces = []
    for row in order:
        # A run between both faces: from a corner in the first face to the next corner in the other.
        start = [dart for dart in row if dart in one][0]
        run = [start]
        while turn[run[-1]] not in other:
            run.append(turn[run[-1]])
        pieces.append(_reached(turn, {dart // 2 for dart in run}, common))
    return pieces


def _reached(turn, ties, barred):
    ties = set(ties)
    while True:
        more = {
            dart // 2 for row in tie_places(turn, ties) if row not in barred for dart in row
        } | ties
        if more == ties:
            return tuple(sorted(ties))
        ties = more


def _told(pieces):
    both = [from_on(row, min(pieces)) for row in (pieces, pieces[::-1])]
    return min(both, key=lambda row: row[1])


# Parts [8], turns, part webs, setting in

@lru_cache(None)
def parts(turn):
    ties = range(len(turn) // 2)
    return sorted(some for some in subsets(ties) if is_part(turn, some))


def is_part(turn, ties):
    if len(ties) in (0, len(turn) // 2):
        return False
    last = [dart for dart in range(len(turn)) if dart // 2 in ties and turn[dart] // 2 not in ties]
    return len(last) == 2 and place(turn, last[0]) != place(turn, last[1])


def rest(turn, ties):
    return tuple(tie for tie in range(len(turn) // 2) if tie not in ties)


def own(ties, row):
    return [dart for dart in row if dart // 2 in ties]


def ends(turn, ties):
    return [row for row in places(turn) if 0 < len(own(ties, row)) < len(row)]


def inner(turn, ties):
    return [row for row in places(turn) if len(own(ties, row)) == len(row)]


def run_at(turn, ties, row):
    """The darts of the part at an end, from the first to the last."""
    first = [dart for dart in own(ties, row) if row[row.index(dart) - 1] // 2 not in ties]
    return from_on(row, first[0])[:len(own(ties, row))]


def runs(turn, ties):
    return sorted(run_at(turn, ties, row) for row in ends(turn, ties))


def turned(turn, ties, letter):
    one, other = ends(turn, ties)
    rows = [row for row in places(turn) if not own(ties, row)]
    rows += [row if letter == "c" else row[::-1] for row in inner(turn, ties)]
    for stay, come in ((one, one), (other, other)) if letter == "a" else ((one, other), (other, one)):
        run, old = run_at(turn, ties, come), run_at(turn, ties, stay)
        others = from_on(stay, old[0])[len(old):]
        rows.append(others + (run if letter == "c" else run[::-1]))
    return turn_of(rows)


def _renamed(rows, ties):
    return turn_of([[2 * ties.index(dart // 2) + dart % 2 for dart in row] for row in rows])


def part_web(turn, ties):
    lesser, greater = runs(turn, ties)
    new = len(turn)
    rows = inner(turn, ties) + [lesser + (new,), greater + (new + 1,)]
    return _renamed(rows, list(ties) + [new // 2])


def set_in(turn, tie, other):
    shift, last = len(turn), len(turn) + len(other) - 2
    theirs = [tuple(dart + shift for dart in row) for row in places(other)]
    rows = [list(row) for row in places(turn)]
    for side in (0, 1):
        come = from_on([row for row in theirs if last + side in row][0], last + side)[1:]
        for row in rows:
            if 2 * tie + side in row:
                at = row.index(2 * tie + side)
                row[at:at + 1] = come
    rows += [row for row in theirs if last not in row and last + 1 not in row]
    return _less(rows, [tie, last // 2])


# Strong parts, nodes, skeletons [3a]

def cross(turn, one, other):
    one, other, every = set(one), set(other), set(range(len(turn) // 2))
    return bool(one & other and one - other and other - one and every - one - other)


def strong(turn):
    many = len(turn) // 2
    return [
        ties for ties in parts(turn)
        if 2 <= len(ties) <= many - 2 and not any(cross(turn, ties, other) for other in parts(turn))
    ]


def nodes(turn):
    many = len(turn) // 2
    if many < 3:
        return []
    tight = strong(turn)
    choices = tight + [(tie,) for tie in range(many)]
    kinds = {tuple(sorted(row)): "necklace" for row in necklaces(turn)}
    kinds.update({tuple(sorted(row)): "bunch" for row in bunches(turn)})
    found = []
    for pieces in _covers(choices, tuple(range(many))):
        if len(pieces) >= 3 and all(
            any(set(side) <= set(piece) for side in (ties, rest(turn, ties)) for piece in pieces) for ties in tight
        ):
            found.append((kinds.get(pieces, "firm"), pieces))
    return sorted(found)


def _covers(choices, left):
    """All sorted tuples of choices that have each tie that is left just once."""
    if not left:
        return [()]
    found = []
    for piece in choices:
        if left[0] in piece and set(piece) <= set(left):
            fewer = tuple(tie for tie in left if tie not in piece)
            found += [tuple(sorted((piece,) + more)) for more in _covers(choices, fewer)]
    return found


def skeleton(turn, pieces):
    stands = {}
    for at, piece in enumerate(pieces):
        for side, run in enumerate(runs(turn, piece)):
            stands.update({dart: 2 * at + side for dart in run})
    at_ends = sorted({row for piece in pieces for row in ends(turn, piece)})
    rows = []
    for row in at_ends:
        told = [stands[dart] for dart in row]
        rows.append([dart for at, dart in enumerate(told) if dart != told[at - 1]])
    return turn_of(rows)


# Flypes and deeds [9]

def with_tie(ties, tie):
    return tuple(sorted(ties + (tie,)))


def is_flype(turn, tie, ties):
    return tie not in ties and is_part(turn, ties) and is_part(turn, with_tie(ties, tie))


@lru_cache(None)
def flypes(turn):
    many = len(turn) // 2
    return [(tie, ties) for tie in range(many) for ties in parts(turn) if is_flype(turn, tie, ties)]


def little_flypes(turn):
    every = flypes(turn)
    return [
        (tie, ties) for tie, ties in every
        if len(ties) >= 2 and not any(one == tie and set(other) < set(ties) for one, other in every)
    ]


def kind_of(turn, tie, ties):
    """"row" or "beside"."""
    common = set(ends(turn, ties)) & set(ends(turn, with_tie(ties, tie)))
    return {1: "row", 2: "beside"}[len(common)]


def flyped(turn, tie, ties):
    whole = with_tie(ties, tie)
    rows = [row for row in places(turn) if not own(whole, row)] + [row[::-1] for row in inner(turn, ties)]
    if kind_of(turn, tie, ties) == "row":
        v, = set(ends(turn, ties)) & set(ends(turn, whole))
        u, = set(ends(turn, ties)) - {v}
        y, = [dart for dart in u if dart // 2 == tie]
        x = y ^ 1
        w = place(turn, x)
        run_u, run_v = run_at(turn, ties, u), run_at(turn, ties, v)
        rows.append(from_on(w, x)[1:] + run_u[::-1])
        rows.append(run_v[::-1] + (x,))
        rows.append(from_on(v, run_v[0])[len(run_v):] + (y,))
        return turn_of(rows)
    y, = [dart for dart in (2 * tie, 2 * tie + 1) if turn[dart] // 2 in ties]
    x = y ^ 1
    u, v = place(turn, y), place(turn, x)
    p, q = run_at(turn, ties, u), run_at(turn, ties, v)
    assert from_on(u, y)[1:1 + len(p)] == p and turn[q[-1]] == x
    rows.append(from_on(u, y)[1 + len(p):] + q[::-1] + (y,))
    rows.append(from_on(v, q[0])[len(q) + 1:] + (x,) + p[::-1])
    return turn_of(rows)


def deed_done(turn, deed):
    """What the deed makes of the turn, or None."""
    if deed == ("behind",):
        return behind(turn)
    if type(deed) is not tuple or len(deed) != 3 or deed[0] != "past":
        return None
    if not _is_count(deed[1], len(turn) // 2) or not is_ties(turn, deed[2]):
        return None
    return flyped(turn, deed[1], deed[2]) if is_flype(turn, deed[1], deed[2]) else None

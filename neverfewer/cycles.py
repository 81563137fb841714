"""Turns as tuples, and the cycles that they are made of."""


def cycle_of(turn, dart):
    """The cycle of the turn that has the dart, from the dart on."""
    cycle = [dart]
    while turn[cycle[-1]] != dart:
        cycle.append(turn[cycle[-1]])
    return tuple(cycle)


def cycles_of(turn):
    """The sorted list of the cycles; without darts there is one, the empty one."""
    found = []
    seen = set()
    for dart in range(len(turn)):
        if dart not in seen:
            cycle = cycle_of(turn, dart)
            found.append(cycle)
            for one in cycle:
                seen.add(one)
    return found or [()]


def positions(cycles):
    """For each dart the position of its cycle."""
    found = [0] * sum([len(cycle) for cycle in cycles])
    for at, cycle in enumerate(cycles):
        for dart in cycle:
            found[dart] = at
    return found


def turn_of(cycles):
    """The turn that has these cycles, in which each dart stands once."""
    turn = [0] * sum([len(cycle) for cycle in cycles])
    for cycle in cycles:
        for at, dart in enumerate(cycle):
            turn[cycle[at - 1]] = dart
    return tuple(turn)


def about_turn(turn):
    """The turn of the web turned about."""
    return tuple([turn[dart ^ 1] for dart in range(len(turn))])


def behind_turn(turn):
    """The turn of the web from behind."""
    back = [0] * len(turn)
    for dart, follower in enumerate(turn):
        back[follower] = dart
    return tuple(back)


def called_turn(turn, darts):
    """The turn in which each dart is called as the list tells."""
    new = [0] * len(turn)
    for dart, follower in enumerate(turn):
        new[darts[dart]] = darts[follower]
    return tuple(new)


def backward(row):
    """The row, the last one first."""
    return tuple(row[::-1])


def rotated(cycle, dart):
    """The cycle from the dart on."""
    at = cycle.index(dart)
    return cycle[at:] + cycle[:at]


def changed(cycles, changes):
    """The cycles with each run of the pairs (run, new) exchanged for the new darts.

    A run is a row of darts that stand together; in each cycle one run is exchanged at most.
    """
    return [_changed_cycle(cycle, changes) for cycle in cycles]


def _changed_cycle(cycle, changes):
    for run, new in changes:
        if run[0] in cycle:
            return new + rotated(cycle, run[0])[len(run):]
    return cycle


def ties_called(cycles, ties):
    """The cycles with these ties called 0, 1, ..; even darts stay even."""
    return [tuple([2 * ties.index(dart // 2) + dart % 2 for dart in cycle]) for cycle in cycles]

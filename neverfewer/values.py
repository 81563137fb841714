"""Of what kind any value is."""


def is_integer(value):
    """Whether the value is an INTEGER: True and False are none."""
    return isinstance(value, int) and not isinstance(value, bool)


def is_below(value, limit):
    """Whether the value is a COUNT below the limit."""
    return is_integer(value) and 0 <= value < limit


def is_mark(value):
    """Whether the value is a MARK."""
    return is_integer(value) and value in (1, -1)


def is_list(value):
    """Whether the value is a list, or a tuple in the place of one."""
    return isinstance(value, (list, tuple))


def are_below(values, limit):
    """Whether all of the values are COUNTS below the limit."""
    return all([is_below(value, limit) for value in values])


def are_all_below(values, limit):
    """Whether the values are each of the COUNTS below the limit, once."""
    return len(values) == limit and are_below(values, limit) and len(set(values)) == limit


def is_ties(value, many):
    """Whether the value is TIES of a web of so many ties."""
    if not isinstance(value, tuple) or not are_below(value, many):
        return False
    return all([value[at] < value[at + 1] for at in range(len(value) - 1)])


def is_word(value, words):
    """Whether the value is one of the words."""
    return isinstance(value, str) and value in words


def without(ties, others):
    """The ties that are not among the others."""
    return tuple([tie for tie in ties if tie not in others])


def other_ties(many, ties):
    """Those of so many ties that are not among these."""
    return without(list(range(many)), ties)

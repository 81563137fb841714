"""What wrong values raise, one at a time and two at once."""

from itertools import combinations

from neverfewer import errors

ABOVE = {
    "WebError": ValueError, "MissingError": LookupError, "StateError": RuntimeError, "LimitError": ArithmeticError,
}
ATTRIBUTES = {
    "WebError": {
        "InvalidWeb": ["value"], "InvalidDart": ["value"], "InvalidCorner": ["value"], "InvalidTie": ["value"],
        "InvalidTies": ["value"], "InvalidOrder": ["value"], "InvalidLimit": ["value"],
        "InvalidDeeds": ["position"], "InvalidDrawing": ["value"], "InvalidDirections": ["value"],
        "InvalidMoves": ["position"], "InvalidTable": ["value"], "InvalidPrime": ["value"], "BadMove": [],
        "BadText": ["position"], "InvalidBuild": ["position"], "InvalidCommand": ["value"],
        "InvalidCord": ["value"], "InvalidDarts": ["value"], "InvalidExponent": ["value"],
        "InvalidLetter": ["value"], "InvalidMarks": ["value"], "InvalidNumbers": ["value"],
        "InvalidPieces": ["value"], "InvalidRows": ["value"], "InvalidTurn": ["value"],
    },
    "MissingError": {"UnknownLabel": ["value"], "UnknownName": ["value"]},
    "StateError": {
        "NotBlock": [], "IsLoop": [], "LabelTaken": ["label"], "NameTaken": ["name"], "NotChart": [],
        "NotFacing": [], "NotFlype": ["tie", "ties"], "NotGathered": [], "NotLead": ["bare", "piece"],
        "NotOne": [], "NothingToRedo": [], "NothingToUndo": [], "Parted": [],
    },
    "LimitError": {"TooMany": ["what", "limit"]},
}


class Thing:
    """A value of a kind that the package does not know."""


THING = Thing()
KINDS = [None, True, False, "0", "", b"0", (), [], {}, [0], (0,), {0: 0}, [[0]], ((0,),), THING, int, 10 ** 29]
NO_WEBS = [None, True, 0, "web", (2, 3, 0, 1), [2, 3, 0, 1], (), [], {}, THING]
NO_LISTS = [None, True, False, 0, 3, "", "ab", b"ab", {}, {0: 0}, THING]


def no_counts(limit):
    """Values that are no COUNT below the limit."""
    return [value for value in KINDS if type(value) is not int or value >= limit] + [-1, limit, -limit, 10 ** 9]


def plain(values, error):
    """Wrong values, each with its error and the value in the error's attribute."""
    return [(value, error, {"value": value}) for value in values]


def webs_and(*others):
    """Wrong webs: values that are none, and webs that an other error speaks of."""
    return plain(NO_WEBS, "InvalidWeb") + list(others)


def check_raised(case, told, call, *args, **named):
    """The call raises just the error that is told, with its attributes and the classes above it."""
    error, attributes = told
    try:
        call(*args, **named)
    except Exception as raised:
        case.assertIs(type(raised), getattr(errors, error), (raised, args, named))
        above = [base for base in ABOVE if error in ATTRIBUTES[base]][0]
        case.assertEqual(type(raised).__bases__, (getattr(errors, above),))
        case.assertEqual(getattr(errors, above).__bases__, (ABOVE[above],))
        for key, value in attributes.items():
            case.assertEqual(getattr(raised, key), value)
            case.assertIs(type(getattr(raised, key)), type(value))
        return
    case.fail((error, "was not raised", args, named))


def check_wrong(case, call, good, wrong):
    """Each wrong value raises its error; of two wrong ones the first parameter's error is raised.

    good: a dict of the parameters, in their sequence, with right values. wrong: a dict that tells for
    parameters lists of (value, error, attributes).
    """
    names = list(good)
    case.assertEqual(repr_of(call(**good)), repr_of(call(*good.values())))
    case.assertEqual([key for key in wrong if key not in names], [])
    for key in wrong:
        for value, error, attributes in wrong[key]:
            args = {**good, key: value}
            check_raised(case, (error, attributes), call, *args.values())
            check_raised(case, (error, attributes), call, **args)
    for one, other in combinations([key for key in names if key in wrong], 2):
        for value, error, attributes in wrong[one]:
            for later in wrong[other]:
                args = {**good, one: value, other: later[0]}
                check_raised(case, (error, attributes), call, *args.values())


def check_bools(case, call, values):
    """The call returns a bool, False, for each of the values."""
    for value in values:
        case.assertIs(call(value), False, value)


def check_kept(case, call, *args, **named):
    """Called again, an equal answer comes, of equal kinds, whatever is done to the one that came."""
    first, second = call(*args, **named), call(*args, **named)
    case.assertEqual(repr_of(first), repr_of(second))
    before = repr_of(second)
    spoil(first)
    case.assertEqual(repr_of(second), before)
    case.assertEqual(repr_of(call(*args, **named)), before)


def repr_of(value):
    """The value told in words, kinds of lists and tuples included."""
    if isinstance(value, list):
        return "[" + ", ".join(repr_of(one) for one in value) + "]"
    if isinstance(value, tuple):
        return "(" + "".join(repr_of(one) + ", " for one in value) + ")"
    if hasattr(value, "turn"):
        return "Web" + repr(value.turn())
    if hasattr(value, "marks"):
        return "Drawing" + repr((value.web().turn(), value.marks()))
    if hasattr(value, "terms"):
        return "Laurent" + repr(value.terms())
    return repr(value)


def spoil(value):
    """Changes all lists in the value."""
    if isinstance(value, (list, tuple)):
        for one in value:
            spoil(one)
    if isinstance(value, list):
        value.reverse()
        value.append("spoilt")

"""The errors of the package, each below the one class that DOC.md tells."""


class WebError(ValueError):
    """What is passed is not of the kind that is asked for."""


class InvalidWeb(WebError):
    """The value is not a Web."""

    def __init__(self, value):
        self.value = value


class InvalidDart(WebError):
    """The value is not a dart of the web."""

    def __init__(self, value):
        self.value = value


class InvalidCorner(WebError):
    """The value is not a corner of the web."""

    def __init__(self, value):
        self.value = value


class InvalidTie(WebError):
    """The value is not a tie of the web."""

    def __init__(self, value):
        self.value = value


class InvalidTies(WebError):
    """The value is not such ties of the web as are asked for."""

    def __init__(self, value):
        self.value = value


class InvalidOrder(WebError):
    """The value is not an order of the ties of the web."""

    def __init__(self, value):
        self.value = value


class InvalidLimit(WebError):
    """The value is not a limit."""

    def __init__(self, value):
        self.value = value


class InvalidDeeds(WebError):
    """The element at the position is not a deed that can be done then."""

    def __init__(self, position):
        self.position = position


class InvalidDrawing(WebError):
    """The value is not a Drawing."""

    def __init__(self, value):
        self.value = value


class InvalidDirections(WebError):
    """The value is not directions of the cords."""

    def __init__(self, value):
        self.value = value


class InvalidMoves(WebError):
    """The element at the position is not a move that can be done then."""

    def __init__(self, position):
        self.position = position


class InvalidTable(WebError):
    """The value is not a table."""

    def __init__(self, value):
        self.value = value


class InvalidPrime(WebError):
    """The value is not one of the primes."""

    def __init__(self, value):
        self.value = value


class BadMove(WebError):
    """The value is not a move of the drawing."""


class BadText(WebError):
    """The text cannot be read, from the position on."""

    def __init__(self, position):
        self.position = position


class InvalidBuild(WebError):
    """The element at the position is not a row that can be done then."""

    def __init__(self, position):
        self.position = position


class InvalidCommand(WebError):
    """The value is not written as a command."""

    def __init__(self, value):
        self.value = value


class InvalidCord(WebError):
    """The value is not the position of a cord that is asked for."""

    def __init__(self, value):
        self.value = value


class InvalidDarts(WebError):
    """The value does not call the darts of the web anew."""

    def __init__(self, value):
        self.value = value


class InvalidExponent(WebError):
    """The value is not an exponent."""

    def __init__(self, value):
        self.value = value


class InvalidLetter(WebError):
    """The value is not one of the letters by which a part is turned."""

    def __init__(self, value):
        self.value = value


class InvalidMarks(WebError):
    """The value is not a mark for each tie."""

    def __init__(self, value):
        self.value = value


class InvalidNumbers(WebError):
    """The value is not a list of integers."""

    def __init__(self, value):
        self.value = value


class InvalidPieces(WebError):
    """The value is not the pieces of a node of the web."""

    def __init__(self, value):
        self.value = value


class InvalidRows(WebError):
    """The value is not the rows of a drawing."""

    def __init__(self, value):
        self.value = value


class InvalidTurn(WebError):
    """The value is not the turn of a web."""

    def __init__(self, value):
        self.value = value


class MissingError(LookupError):
    """What is asked for is not kept."""


class UnknownLabel(MissingError):
    """No claim is kept under the label."""

    def __init__(self, value):
        self.value = value


class UnknownName(MissingError):
    """No drawing is kept under the name."""

    def __init__(self, value):
        self.value = value


class StateError(RuntimeError):
    """What is passed is of its kind, but this cannot be done to it."""


class NotBlock(StateError):
    """The web is not a block."""


class IsLoop(StateError):
    """The tie is a loop."""


class LabelTaken(StateError):
    """A claim is kept under the label already."""

    def __init__(self, label):
        self.label = label


class NameTaken(StateError):
    """A drawing is kept under the name already."""

    def __init__(self, name):
        self.name = name


class NotChart(StateError):
    """The web is not a chart."""


class NotFacing(StateError):
    """The two corners are not in one face."""


class NotFlype(StateError):
    """The tie and the part are not a flype of the block."""

    def __init__(self, tie, ties):
        self.tie = tie
        self.ties = ties


class NotGathered(StateError):
    """The block is not gathered."""


class NotLead(StateError):
    """The bare ties and the piece are not a lead of the block."""

    def __init__(self, bare, piece):
        self.bare = bare
        self.piece = piece


class NotOne(StateError):
    """The web has more cords than one."""


class NothingToRedo(StateError):
    """No deed is left to be redone."""


class NothingToUndo(StateError):
    """No deed is left to be undone."""


class Parted(StateError):
    """What comes would not be in one piece."""


class LimitError(ArithmeticError):
    """What comes would be more than a limit lets."""


class TooMany(LimitError):
    """There would be more of what is named than the limit."""

    def __init__(self, what, limit):
        self.what = what
        self.limit = limit

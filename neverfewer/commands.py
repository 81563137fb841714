"""Commands of a desk, and what their words tell."""

from neverfewer.errors import InvalidCommand
from neverfewer.texts import DIGITS, parse_drawing

LETTERS = "abcdefghijklmnopqrstuvwxyz"
MOST_LETTERS = 8
# What the parts behind a word are, one letter each: a name or label, a numeral, ties, a letter, a sign.
COMMANDS = {
    "copy": "ww", "drop": "w", "past": "wnt", "turn": "wtl", "behind": "w", "other": "w", "unclaim": "w", "undo": "",
    "redo": "",
}
MOVES = {
    "loop": "ns", "hang": "ns", "double": "nns", "split": "nns", "unloop": "n", "unhang": "n", "undouble": "nn",
    "unsplit": "nn", "star": "n", "triangle": "n",
}
CLAIMS = {"one": "ww", "rings": "ww", "full": "w", "least": "wn", "cords": "wn"}


def read_command(command):
    """The tuple of the command's word and its parts; raises InvalidCommand, or BadText of a drawing's text."""
    told = _parts_of(command) if isinstance(command, str) else None
    if told is None:
        raise InvalidCommand(command)
    if told[0] == "draw":
        return told[0], told[1], parse_drawing(told[2])
    return told


def _parts_of(command):
    """The tuple of the command's word and its parts; None if it is not written as commands are."""
    word, blank, left = command.partition(" ")
    if word == "draw":
        name, blank, text = left.partition(" ")
        return (word, name, text) if blank and _is_name(name) else None
    words = command.split(" ")
    if word in ("move", "claim") and len(words) > 2:
        told = _read(words[2:], MOVES.get(words[2]) if word == "move" else CLAIMS.get(words[2]))
        return (word, words[1], told) if told is not None and _is_name(words[1]) else None
    return _read(words, COMMANDS.get(word))


def _is_name(word):
    """Whether the word is a NAME, or a LABEL."""
    return 1 <= len(word) <= MOST_LETTERS and all([sign in LETTERS for sign in word])


def _read(words, shape):
    """The first word and the parts behind it, read as the shape tells; None if they cannot be, or there is no shape."""
    if shape is None or len(words) != len(shape) + 1:
        return None
    parts = [_read_part(kind, word) for kind, word in zip(shape, words[1:])]
    return None if None in parts else (words[0], *parts)


def _read_part(kind, word):
    """What the word tells as a part of this kind; None if it is not written as such."""
    if kind == "w":
        return word if _is_name(word) else None
    if kind == "n":
        return _numeral(word)
    if kind == "t":
        return _ties(word)
    if kind == "s":
        return {"+": 1, "-": -1}.get(word)
    return word if word in ("a", "b", "c") else None


def _numeral(word):
    """The number that is written so; None if the word is no NUMERAL."""
    if not 1 <= len(word) <= 2 or not all([sign in DIGITS for sign in word]):
        return None
    return None if len(word) == 2 and word[0] == "0" else int(word)


def _ties(word):
    """The rising tuple of numbers that is written so; None if the word is not written as TIES."""
    found = [_numeral(one) for one in word.split(",")]
    if None in found or not all([found[at] < found[at + 1] for at in range(len(found) - 1)]):
        return None
    return tuple(found)

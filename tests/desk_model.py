"""A second, slow reading of what DOC.md says of texts, rows of over and under, even numbers, and a desk.

It goes on where the other models end, and shares no code with the package.
"""

import re

import cord_model
import lot_model
import model
import ring_model

NUMERAL = "(?:0|[1-9][0-9]?)"
BEGUN = re.compile(f":|(?:{NUMERAL}[ /])*(?:{NUMERAL}(?::[+-]*)?)?")
SHAPE = re.compile(f":|(?:{NUMERAL}[ /])*{NUMERAL}:[+-]*")
NAME = re.compile("[a-z]{1,8}")
TIES = re.compile(f"{NUMERAL}(?:,{NUMERAL})*")


# Texts [9b1], [9b2]

def text_of(drawing):
    turn, marks = drawing
    return "/".join(" ".join(map(str, row)) for row in model.places(turn)) + ":" + "".join("-?+"[mark + 1] for mark in marks)


def read(text):
    """The drawing that the text is read as, or its bad place."""
    for at in range(len(text)):
        if not BEGUN.fullmatch(text[:at + 1]):
            return at
    if not SHAPE.fullmatch(text):
        return len(text)
    if text == ":":
        return (), ()
    end = text.index(":")
    found = [(int(one.group()), one.start()) for one in re.finditer("[0-9]+", text)]
    darts = [dart for dart, at in found]
    for place, (dart, at) in enumerate(found):
        if dart >= len(found) or dart in darts[:place]:
            return at
    if len(found) % 2 or len(found) > 28:
        return end
    signs = text[end + 1:]
    if len(signs) != len(found) // 2:
        return min(end + 1 + len(found) // 2, len(text))
    turn = model.turn_of([[int(word) for word in row.split()] for row in text[:end].split("/")])
    if not model.is_turn(turn):
        return end
    return turn, tuple(1 if sign == "+" else -1 for sign in signs)


# Rows [9b3], even numbers [9b4]

def rows_of(drawing, directions):
    turn, marks = drawing
    signs, found = cord_model.signs(drawing, directions), []
    for cord, way in zip(cord_model.cords(turn), directions):
        ends = [end ^ 2 for end in cord[:1] + cord[1:][::-1]] if way else list(cord)
        overs = [cord_model.over_end(drawing, directions, end // 4) == end for end in ends]
        found.append([(end // 4, "over" if over else "under", signs[end // 4]) for end, over in zip(ends, overs)])
    return found


def same_rows(rows, other):
    """By trying each row of the one against those of the other that are left."""
    left = [list(row) for row in other]
    for row in rows:
        turns = [list(row[at:]) + list(row[:at]) for at in range(len(row))] or [[]]
        fit = [one for one in left if one in turns]
        if not fit:
            return False
        left.remove(fit[0])
    return not left


def told_rows(rows):
    """The same for all rows that are the SAME as these."""
    return tuple(sorted(min(tuple(row[at:] + row[:at]) for at in range(max(1, len(row)))) for row in rows))


def even_numbers(turn):
    cord, = cord_model.cords(turn)
    passes = [(number, end // 4) for number, end in enumerate(cord, 1)]
    return [[even for even, other in passes if other == tie and even % 2 == 0][0] for odd, tie in passes if odd % 2]


# A desk [9b5], [9b6]

class Wrong(Exception):
    """What a command raises: the error's name, and its attributes."""


def numeral(word):
    return int(word) if re.fullmatch(NUMERAL, word) else None


def told_move(words):
    """The move that the words are, as a tuple; None if they are not written as one."""
    if not words or words[0] not in cord_model.WORDS:
        return None
    kinds = {"loop": "ns", "hang": "ns", "double": "nns", "split": "nns"}.get(
        words[0], "nn" if words[0] in ("undouble", "unsplit") else "n")
    told = [{"+": 1, "-": -1}.get(word) if kind == "s" else numeral(word) for kind, word in zip(kinds, words[1:])]
    return None if len(words) != len(kinds) + 1 or None in told else (words[0], *told)


def told_ties(word):
    if not TIES.fullmatch(word):
        return None
    ties = tuple(int(one) for one in word.split(","))
    return ties if list(ties) == sorted(set(ties)) else None


def told_claim(words):
    shapes = {"one": 2, "rings": 2, "full": 1, "least": 1, "cords": 1}
    if not words or words[0] not in shapes:
        return None
    counted = words[0] in ("least", "cords")
    names = words[1:1 + shapes[words[0]]]
    if len(words) != 1 + shapes[words[0]] + counted or not all(NAME.fullmatch(name) for name in names):
        return None
    return None if counted and numeral(words[-1]) is None else tuple(words)


def check(holds, error, **attributes):
    if not holds:
        raise Wrong(error, attributes)


def done(drawings, claims, command):
    """The drawings and claims behind a command that is neither to undo nor to redo."""
    def written(holds):
        check(holds, "InvalidCommand", value=command)
    written(isinstance(command, str))
    drawings, claims = dict(drawings), dict(claims)
    words = command.split(" ")
    word, rest = words[0], words[1:]
    if word == "draw":
        written(len(rest) >= 2 and NAME.fullmatch(rest[0]))
        told = read(command[len("draw ") + len(rest[0]) + 1:])
        check(not isinstance(told, int), "BadText", position=told)
        check(rest[0] not in drawings, "NameTaken", name=rest[0])
        drawings[rest[0]] = told
        return drawings, claims
    if word == "claim":
        written(len(rest) >= 2 and NAME.fullmatch(rest[0]) and told_claim(rest[1:]))
        check(rest[0] not in claims, "LabelTaken", label=rest[0])
        claims[rest[0]] = told_claim(rest[1:])
        return drawings, claims
    written(rest and NAME.fullmatch(rest[0]))
    name = rest[0]
    if word == "unclaim":
        written(len(rest) == 1)
        check(name in claims, "UnknownLabel", value=name)
        del claims[name]
        return drawings, claims
    if word == "copy":
        written(len(rest) == 2 and NAME.fullmatch(rest[1]))
        check(rest[1] not in drawings, "NameTaken", name=rest[1])
        check(name in drawings, "UnknownName", value=name)
        drawings[rest[1]] = drawings[name]
        return drawings, claims
    written(word in ("drop", "behind", "other", "move", "past", "turn"))
    told = {"move": told_move(rest[1:]), "past": told_past(rest[1:]), "turn": told_turn(rest[1:])}.get(
        word, () if len(rest) == 1 else None)
    written(told is not None)
    check(name in drawings, "UnknownName", value=name)
    if word == "drop":
        del drawings[name]
    else:
        drawings[name] = changed(drawings[name], word, told)
    return drawings, claims


def told_past(words):
    if len(words) != 2 or numeral(words[0]) is None or told_ties(words[1]) is None:
        return None
    return numeral(words[0]), told_ties(words[1])


def told_turn(words):
    if len(words) != 2 or told_ties(words[0]) is None or words[1] not in ("a", "b", "c"):
        return None
    return told_ties(words[0]), words[1]


def changed(drawing, word, told):
    turn, marks = drawing
    if word == "behind":
        return cord_model.from_behind(drawing)
    if word == "other":
        return cord_model.other_colour(drawing)
    if word == "move":
        check(cord_model.is_move(drawing, told), "BadMove")
        check(not cord_model.does_part(drawing, told), "Parted")
        made = cord_model.moved(drawing, told)
        check(len(made[1]) <= 14, "TooMany", what="ties", limit=14)
        return made
    check(model.is_block(turn), "NotBlock")
    if word == "past":
        tie, ties = told
        check(tie < len(marks), "InvalidTie", value=tie)
    else:
        ties, letter = told
    check(max(ties) < len(marks) and model.is_part(turn, ties), "InvalidTies", value=ties)
    if word == "turn":
        return model.turned(turn, ties, letter), marks
    check(tie not in ties and model.is_flype(turn, tie, ties), "NotFlype", tie=tie, ties=ties)
    return model.flyped(turn, tie, ties), marks


def state(drawings, claim):
    names = [word for word in claim[1:] if NAME.fullmatch(word)]
    if any(name not in drawings for name in names):
        return None
    some = [drawings[name] for name in names]
    turns = [turn for turn, marks in some]
    if claim[0] in ("one", "rings"):
        if not all(model.is_block(turn) for turn in turns):
            return None
        if claim[0] == "rings":
            return model.rings(turns[0]) == model.rings(turns[1]) if len(turns[0]) == len(turns[1]) else None
        if len({mark for turn, marks in some for mark in marks}) != 1:
            return None
        return model.name(turns[1]) in lot_model.lot(turns[0])
    if claim[0] == "cords":
        return len(cord_model.cords(turns[0])) == int(claim[2])
    if len(turns[0]) > 20:
        return None
    if claim[0] == "full":
        return ring_model.is_full(some[0])
    return ring_model.span(some[0]) == 4 * int(claim[2])


class Desk:
    """All that is kept is worked out from nothing, by the deeds that hold."""

    def __init__(self):
        self.deeds, self.undone = [], []

    def kept(self, deeds):
        drawings, claims = {}, {}
        for command in deeds:
            drawings, claims = done(drawings, claims, command)
        return drawings, claims

    def states(self, deeds):
        drawings, claims = self.kept(deeds)
        return {label: state(drawings, claim) for label, claim in claims.items()}

    def do(self, command):
        """The answer to the command; raises Wrong."""
        before = self.states(self.deeds)
        deeds, undone = list(self.deeds), list(self.undone)
        if command == "undo":
            check(deeds, "NothingToUndo")
            undone.append(deeds.pop())
        elif command == "redo":
            check(undone, "NothingToRedo")
            deeds.append(undone.pop())
        else:
            done(*self.kept(deeds), command)
            deeds.append(command)
            undone = []
        after = self.states(deeds)
        self.deeds, self.undone = deeds, undone
        told = [(label, after[label]) for label in after if label in before and after[label] is not before[label]]
        if command.startswith("claim "):
            told.append((command.split(" ")[1], after[command.split(" ")[1]]))
        return sorted(told)

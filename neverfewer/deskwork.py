"""What deeds make of what a desk keeps.

A desk keeps a tuple: the drawings by their names, the claims by their labels, and the states of these by
the same labels. No such tuple, and no dict in it, is changed once it is made.
"""

from neverfewer.claims import names_in, state_of
from neverfewer.drawings import Drawing, from_behind, other_colour
from neverfewer.errors import LabelTaken, NameTaken, UnknownLabel, UnknownName
from neverfewer.flypes import flyped
from neverfewer.moves import moved
from neverfewer.turns import turned


def deed_done(kept, deed):
    """What is kept behind the deed, which is neither to undo nor to redo."""
    word = deed[0]
    if word == "claim":
        return _claimed(kept, deed[1], deed[2])
    if word == "unclaim":
        return _unclaimed(kept, deed[1])
    drawings = kept[0]
    if word == "draw":
        return _put(kept, _free(drawings, deed[1]), deed[2])
    if word == "copy":
        return _put(kept, _free(drawings, deed[2]), known(drawings, deed[1]))
    drawing = known(drawings, deed[1])
    if word == "drop":
        return _told_anew({name: drawings[name] for name in drawings if name != deed[1]}, kept, deed[1])
    return _put(kept, deed[1], _changed(drawing, deed))


def _changed(drawing, deed):
    """What the deed makes of the drawing."""
    word = deed[0]
    if word == "move":
        return moved(drawing, deed[2])
    if word == "past":
        return Drawing(flyped(drawing.web(), deed[2], deed[3]), drawing.marks())
    if word == "turn":
        return Drawing(turned(drawing.web(), deed[2], deed[3]), drawing.marks())
    return from_behind(drawing) if word == "behind" else other_colour(drawing)


def _free(drawings, name):
    """The name; raises NameTaken if a drawing is kept under it."""
    if name in drawings:
        raise NameTaken(name)
    return name


def known(drawings, name):
    """The drawing under this name; raises UnknownName if there is none, of any value."""
    if not isinstance(name, str) or name not in drawings:
        raise UnknownName(name)
    return drawings[name]


def labelled(kept, label):
    """What is kept under this label; raises UnknownLabel if there is nothing, of any value."""
    if not isinstance(label, str) or label not in kept:
        raise UnknownLabel(label)
    return kept[label]


def _put(kept, name, drawing):
    """The same, with the drawing under this name."""
    return _told_anew({**kept[0], name: drawing}, kept, name)


def _told_anew(drawings, kept, name):
    """These drawings with the claims that are kept; only what asks of the name can have another state."""
    claims, states = kept[1], kept[2]
    told = {
        label: state_of(claim, drawings) if name in names_in(claim) else states[label]
        for label, claim in claims.items()
    }
    return drawings, claims, told


def _claimed(kept, label, claim):
    drawings, claims, states = kept
    if label in claims:
        raise LabelTaken(label)
    return drawings, {**claims, label: claim}, {**states, label: state_of(claim, drawings)}


def _unclaimed(kept, label):
    drawings, claims, states = kept
    labelled(claims, label)
    others = [other for other in claims if other != label]
    return drawings, {other: claims[other] for other in others}, {other: states[other] for other in others}


def changes(kept, new):
    """The sorted list of the claims of both whose states differ, with the new states."""
    old, states = kept[2], new[2]
    return sorted([(label, states[label]) for label in states if label in old and states[label] != old[label]])

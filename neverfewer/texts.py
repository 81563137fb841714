"""Texts of drawings, and how they are read."""

from neverfewer.cycles import turn_of
from neverfewer.drawings import Drawing, check_drawing
from neverfewer.errors import BadText
from neverfewer.webs import MOST_TIES, Web, is_turn

DIGITS = "0123456789"


def print_drawing(drawing):
    """The text of the drawing."""
    check_drawing(drawing)
    places = [" ".join([str(dart) for dart in place]) for place in drawing.web().places()]
    marks = ["+" if mark == 1 else "-" for mark in drawing.marks()]
    return "/".join(places) + ":" + "".join(marks)


def parse_drawing(text):
    """The drawing as which the text is read."""
    if not isinstance(text, str):
        raise BadText(0)
    _check_shape(text)
    end = text.find(":")
    places = _check_darts(text[:end], end)
    marks = text[end + 1:]
    _check_marks(text, end, sum([len(place) for place in places]) // 2)
    turn = turn_of(places)
    if not is_turn(turn):
        raise BadText(end)
    return Drawing(Web(turn), [1 if mark == "+" else -1 for mark in marks])


def _check_shape(text):
    """Raises BadText at the first sign that cannot stand there, or at the end of what ends too early."""
    stands = "start"
    for at, sign in enumerate(text):
        stands = _next_stand(stands, sign)
        if stands == "":
            raise BadText(at)
    if stands not in ("signs", "end"):
        raise BadText(len(text))


def _next_stand(stands, sign):
    """What the sign is the last one of, behind what stood ahead of it; "" if it cannot stand there."""
    if stands in ("start", "gap"):
        if sign == ":" and stands == "start":
            return "end"
        return _first_digit(sign)
    if stands == "signs":
        return "signs" if sign in ("+", "-") else ""
    if stands == "digit" and sign in DIGITS:
        return "full"
    if stands in ("digit", "full"):
        return {" ": "gap", "/": "gap", ":": "signs"}.get(sign, "")
    return ""


def _first_digit(sign):
    if sign not in DIGITS:
        return ""
    return "full" if sign == "0" else "digit"


def _check_darts(text, end):
    """The places, of what stands ahead of the sign at the end; raises BadText unless each dart stands there once."""
    places = [[int(word) for word in place.split(" ")] for place in text.split("/")] if text else []
    darts = [dart for place in places for dart in place]
    at = 0
    for many, dart in enumerate(darts):
        if dart >= len(darts) or dart in darts[:many]:
            raise BadText(at)
        at += len(str(dart)) + 1
    if len(darts) % 2 == 1 or len(darts) > 2 * MOST_TIES:
        raise BadText(end)
    return places


def _check_marks(text, end, many):
    """Raises BadText unless so many signs stand behind the end."""
    if len(text) > end + 1 + many:
        raise BadText(end + 1 + many)
    if len(text) < end + 1 + many:
        raise BadText(len(text))

"""Parts turned over, by letters."""

from neverfewer.cycles import backward, changed, turn_of
from neverfewer.ears import check_block
from neverfewer.errors import InvalidLetter
from neverfewer.parts import check_part, inner_places, runs_of
from neverfewer.values import is_word
from neverfewer.webs import Web


def turned(web, ties, letter):
    """The web in which the part is turned by the letter."""
    check_block(web)
    check_part(web, ties)
    if not is_word(letter, ("a", "b", "c")):
        raise InvalidLetter(letter)
    places = changed(_places_turned(web, ties, letter), _changes(runs_of(web, ties), letter))
    return Web(turn_of(places))


def _places_turned(web, ties, letter):
    """The places, the inner ones the other way round unless the letter lets them be."""
    inner = [] if letter == "c" else inner_places(web, ties)
    return [backward(place) if place in inner else place for place in web.places()]


def _changes(runs, letter):
    """Each run, and what stands in its place behind the turn."""
    one, other = runs
    if letter == "a":
        return [(one, backward(one)), (other, backward(other))]
    if letter == "b":
        return [(one, backward(other)), (other, backward(one))]
    return [(one, other), (other, one)]

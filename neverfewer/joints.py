"""Places that part a web, and what is reached without going through places."""

from neverfewer.cycles import positions


def joints(web):
    """The sorted list of the places that part the web."""
    # A place parts the web just if a line can be drawn from it through one face back to it,
    # so that ties lie on both sides: if one face has two corners there.
    face_at = positions(web.faces())
    return [place for place in web.places() if len(set([face_at[dart] for dart in place])) < len(place)]


def reached(web, ties, barred):
    """The ties that are reached from these without going through a barred place."""
    places = web.places()
    at = positions(places)
    found = list(ties)
    done = 0
    while done < len(found):
        tie = found[done]
        for dart in (2 * tie, 2 * tie + 1):
            place = places[at[dart]]
            if place not in barred:
                news = [one // 2 for one in place if one // 2 not in found]
                found.extend(sorted(set(news)))
        done += 1
    return tuple(sorted(found))


def shares(web, place):
    """The shares into which the place parts the ties, in the sequence of their least ties."""
    found = []
    for tie in range(web.many):
        if not any([tie in share for share in found]):
            found.append(reached(web, [tie], [place]))
    return found

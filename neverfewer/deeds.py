"""Rows of deeds: flypes, and looks from behind."""

from neverfewer.ears import check_block
from neverfewer.errors import InvalidDeeds
from neverfewer.flypes import flype_done, is_flype_of
from neverfewer.values import is_below, is_list, is_word
from neverfewer.webs import behind


def is_deeds(web, value):
    """Whether any value is a list of deeds that can be done to the block."""
    check_block(web)
    return is_list(value) and len(webs_behind(web, value)) > len(value)


def deeds_done(web, deeds):
    """The list of the web, and of what each deed makes."""
    check_block(web)
    return _checked_webs(web, deeds)


def deeds_back(web, deeds):
    """The list of the deeds, backward."""
    check_block(web)
    _checked_webs(web, deeds)
    return list(reversed(deeds))


def _checked_webs(web, deeds):
    if not is_list(deeds):
        raise InvalidDeeds(0)
    webs = webs_behind(web, deeds)
    if len(webs) <= len(deeds):
        raise InvalidDeeds(len(webs) - 1)
    return webs


def webs_behind(web, deeds):
    """The list of the web and of what each deed makes, up to the first that cannot be done."""
    webs = [web]
    for deed in deeds:
        if not _is_deed(webs[-1], deed):
            return webs
        webs.append(_done(webs[-1], deed))
    return webs


def _is_deed(web, value):
    if not isinstance(value, tuple):
        return False
    if len(value) == 1:
        return is_word(value[0], ("behind",))
    if len(value) != 3 or not is_word(value[0], ("past",)) or not is_below(value[1], web.many):
        return False
    return is_flype_of(web, value[1], value[2])


def _done(web, deed):
    if deed[0] == "behind":
        return behind(web)
    return flype_done(web, deed[1], deed[2])

"""The checker: which claims it accepts, with which certificates."""

from touchpasses.errors import InvalidBounds
from touchpasses.forms import form
from touchpasses.jumps import HIGH, LOW, ends_of, outermost, reach, steepness
from touchpasses.kinds import is_between, is_integer, is_word
from touchpasses.mends import holds
from touchpasses.passes import OLD
from touchpasses.traces import heard
from touchpasses.weights import WHOLE, is_less
from touchpasses.wishes import CALM, FLAT, KEPT, LIKE, are_alike, is_wish, track_of

LEAST = "least"
GREATEST = "greatest"


def is_same(value, wanted):
    """Whether a value, of any kind, is just this tuple, string or integer; so True is not 1."""
    if isinstance(wanted, tuple):
        if not isinstance(value, tuple) or len(value) != len(wanted):
            return False
        return all([is_same(one, other) for one, other in zip(value, wanted)])
    if isinstance(wanted, str):
        return isinstance(value, str) and value == wanted
    return is_integer(value) and value == wanted


def is_tick(track, value):
    """Whether this is a tick of a track."""
    return is_between(value, 0, track.length - 1)


def accepts_form(text, tick, terms, certificate):
    """Whether these are the terms of this tick."""
    track = track_of(text)
    if track is None or not is_tick(track, tick) or not is_same(certificate, ()):
        return False
    return is_same(terms, form(track, tick))


def accepts_holds(text, wish, certificate):
    """Whether this wish for a track holds."""
    track = track_of(text)
    if track is None or not is_wish(wish, track.length) or not is_same(certificate, ()):
        return False
    return holds(track, wish)


def accepts_same(text, other_text, certificate):
    """Whether two tracks are alike."""
    one, other = track_of(text), track_of(other_text)
    if one is None or other is None or not is_same(certificate, ()):
        return False
    return are_alike(one, other)


def accepts_unlike(text, other_text, certificate):
    """Whether the forms of two tracks of the same length are not equal at this tick."""
    one, other = track_of(text), track_of(other_text)
    if one is None or other is None or one.length != other.length or not is_tick(one, certificate):
        return False
    return form(one, certificate) != form(other, certificate)


def fails_at(track, wish, tick):
    """Whether this tick shows that a wish for a track, that is no "like", does not hold."""
    word, *rest = wish
    if word == CALM:
        return tick > 0 and is_less(rest[0], steepness(form(track, tick - 1), form(track, tick)))
    begin, end = rest[-2:]
    if not begin <= tick < end:
        return False
    if word == KEPT:
        return form(track, tick) != ((OLD, tick, WHOLE),)
    if word == FLAT:
        return form(track, tick) != form(track, begin)
    name = rest[0]
    return name not in track or not any([first <= tick < until for first, until in heard(track, name)])


def accepts_fails(text, wish, certificate):
    """Whether this wish for a track, that is no "like", does not hold at this tick."""
    track = track_of(text)
    if track is None or not is_wish(wish, track.length) or not is_tick(track, certificate):
        return False
    return wish[0] != LIKE and fails_at(track, wish, certificate)


def accepts_comes(text, bounds, side, number, certificate):
    """Whether this is the least, or the greatest, number to which the curve comes, and has this tick it."""
    track = track_of(text)
    if track is None or not is_word(side, (LEAST, GREATEST)) or not is_tick(track, certificate):
        return False
    try:
        told = reach(track, bounds)
    except InvalidBounds:
        return False
    wanted, place = (told[0], LOW) if side == LEAST else (told[2], HIGH)
    return is_same(number, wanted) and outermost(form(track, certificate), ends_of(bounds, place)) == wanted


SIZES = {"form": 4, "holds": 3, "same": 3, "unlike": 3, "fails": 3, "comes": 5}
CHECKS = {"form": accepts_form, "holds": accepts_holds, "same": accepts_same, "unlike": accepts_unlike,
          "fails": accepts_fails, "comes": accepts_comes}


def accepts(claim, certificate):
    """Whether this is a claim for the checker, and a certificate for it, whatever both are."""
    if not isinstance(claim, tuple) or len(claim) == 0:
        return False
    word, *rest = claim
    if not isinstance(word, str) or word not in SIZES or len(claim) != SIZES[word]:
        return False
    check = CHECKS[word]
    return check(*rest, certificate)

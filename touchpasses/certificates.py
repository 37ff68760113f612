"""Claims with the certificates that the checker accepts for them."""

from touchpasses.checker import GREATEST, LEAST
from touchpasses.checks import check_track
from touchpasses.forms import form
from touchpasses.jumps import reach
from touchpasses.likeness import first_unlike
from touchpasses.segments import formed_segments
from touchpasses.wishes import LIKE, check_wish, first_failing, track_of


def certify_form(track, tick):
    """The claim of the form of this tick, with its certificate."""
    terms = form(track, tick)
    return ("form", str(track), tick, terms), ()


def certify_pair(one, other):
    """The claim that two tracks are alike or that they are not, with its certificate."""
    tick = first_unlike(one, other)
    if tick is None:
        return ("same", str(one), str(other)), ()
    return ("unlike", str(one), str(other)), tick


def first_against(track, wish):
    """The least tick at which a wish for a track does not hold, None if it holds."""
    if wish[0] == LIKE:
        return first_unlike(track, track_of(wish[1]))
    return first_failing(track, formed_segments(track), wish)


def certify(track, wish):
    """The claim that a wish for the track holds or that it does not, with its certificate.

    None where no tick shows it: the wish is to be alike a track of another length.
    """
    check_track(track)
    check_wish(track, wish)
    if wish[0] == LIKE and track_of(wish[1]).length != track.length:
        return None
    tick = first_against(track, wish)
    if tick is None:
        return ("holds", str(track), wish), ()
    if wish[0] == LIKE:
        return ("unlike", str(track), wish[1]), tick
    return ("fails", str(track), wish), tick


def certify_reach(track, bounds):
    """The claims of the least and of the greatest number to which the curve comes, with their certificates."""
    least, low_tick, greatest, high_tick = reach(track, bounds)
    low = ("comes", str(track), bounds, LEAST, least), low_tick
    high = ("comes", str(track), bounds, GREATEST, greatest), high_tick
    return low, high

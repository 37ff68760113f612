"""Where two tracks are alike, and which tracks have forms that were seen."""

from touchpasses.checks import check_pair
from touchpasses.curves import form_of
from touchpasses.segments import segments
from touchpasses.stretches import longest


def differs(one, other, tick):
    """Whether two tracks have unlike forms at a tick."""
    return form_of(one.passes, one.length, tick) != form_of(other.passes, other.length, tick)


def unlike(one, other):
    """The longest stretches of ticks whose forms are not equal."""
    check_pair(one, other)
    both = segments(one.length, one.passes + other.passes)
    return longest([(first, end) for first, end in both if differs(one, other, end - 1)])


def alike(one, other):
    """Whether all forms of two tracks are equal."""
    return first_unlike(one, other) is None


def first_unlike(one, other):
    """The least tick whose forms are not equal, None if there is none."""
    check_pair(one, other)
    for first, end in segments(one.length, one.passes + other.passes):
        if differs(one, other, end - 1):
            return first
    return None


def fits(track, seen):
    """Whether a track has all these forms at their ticks."""
    for tick, wanted in seen:
        if tick >= track.length or form_of(track.passes, track.length, tick) != wanted:
            return False
    return True


def fitting(tracks, seen):
    """The indexes of the tracks that have just the forms that were seen."""
    return tuple([at for at, track in enumerate(tracks) if fits(track, seen)])

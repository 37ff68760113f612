"""What is still heard of movements and of the old curve, and what a pass changes."""

from touchpasses.checks import check_name, check_track
from touchpasses.likeness import unlike
from touchpasses.passes import OLD
from touchpasses.segments import formed_segments
from touchpasses.stretches import longest
from touchpasses.weights import WHOLE


def heard_in(rows, source):
    """The longest stretches of ticks of a source that come in some form of a track with these segments."""
    found = []
    for first, end, terms in rows:
        for name, tick, _ in terms:
            if name == source:
                found.append((first, end) if tick == end - 1 else (tick, tick + 1))
    return longest(found)


def kept_in(rows):
    """The longest stretches of ticks at which the old curve stands, and nothing else."""
    return longest([(first, end) for first, end, terms in rows if terms == ((OLD, end - 1, WHOLE),)])


def heard(track, name):
    """The longest stretches of ticks of the movement of a pass that are heard."""
    check_track(track)
    check_name(track, name)
    return heard_in(formed_segments(track), name)


def old_heard(track):
    """The longest stretches of ticks of the old curve that are heard."""
    check_track(track)
    return heard_in(formed_segments(track), OLD)


def kept(track):
    """The longest stretches of ticks that are kept."""
    check_track(track)
    return kept_in(formed_segments(track))


def changed_by(track, name):
    """The longest stretches of ticks whose forms are others without this pass."""
    check_track(track)
    return unlike(track, track.without(name))

"""Which passes could be left out, and which ones could stand in another order."""

from touchpasses.checks import check_track
from touchpasses.curves import taken_by
from touchpasses.errors import TooMany
from touchpasses.likeness import alike
from touchpasses.limits import MOST_ORDERED
from touchpasses.parts import contains, least_parts_of
from touchpasses.passes import OLD
from touchpasses.segments import formed_segments
from touchpasses.tracks import Track
from touchpasses.traces import heard
from touchpasses.weights import WHOLE


def needless(track):
    """The names of the needless passes, ascending."""
    check_track(track)
    return tuple(sorted([name for name in track.names if alike(track, track.without(name))]))


def does_all(track, part):
    """Whether the passes with these indexes do all."""
    return alike(track, Track(track.length, tuple([track.passes[k] for k in part])))


def least_parts(track):
    """The least sets of passes that do all."""
    check_track(track)
    # Only its own pass brings a movement into a form, so no set does all without the passes that are heard.
    needed = [k for k, name in enumerate(track.names) if heard(track, name)]
    return least_parts_of(len(track), lambda part: contains(part, needed) and does_all(track, part))


def swaps(track):
    """The indexes of the passes that can change places with the next one."""
    check_track(track)
    names = track.names
    return tuple([k for k in range(len(names) - 1) if alike(track, track.moved(names[k], k + 1))])


def lefts_below(one_pass, length, lefts, wanted):
    """What is left of each tick below a pass, None if the pass takes anything else than is wanted of it."""
    name = one_pass[0]
    found = []
    for left, terms in zip(lefts, wanted):
        taken, rest = (None, None) if left is None else taken_by(one_pass, length, left)
        if taken != terms.get(name):
            return None
        found.append(rest)
    return tuple(found)


def one_pass_down(track, level, wanted):
    """The level below: each pass that is not yet placed comes next, where it takes just what is wanted."""
    found = {}
    for (rest, lefts), many in level.items():
        for k in rest:
            below = lefts_below(track.passes[k], track.length, lefts, wanted)
            if below is not None:
                key = (tuple([other for other in rest if other != k]), below)
                found[key] = found.get(key, 0) + many
    return found


def orders(track):
    """In how many orders of its passes the track is alike to itself."""
    check_track(track)
    if len(track) > MOST_ORDERED:
        raise TooMany(MOST_ORDERED)
    rows = formed_segments(track)
    wanted = [{source: (tick, weight) for source, tick, weight in terms} for _, _, terms in rows]
    # A level counts the right orders of the last passes by what matters below: the passes that are not
    # yet placed, and what is left of each tick. So orders that leave the same are followed only once.
    level = {(tuple(range(len(track))), tuple([(end - 1, WHOLE) for _, end, _ in rows])): 1}
    for _ in range(len(track)):
        level = one_pass_down(track, level, wanted)
    olds = tuple([terms.get(OLD) for terms in wanted])
    return sum([many for (_, lefts), many in level.items() if lefts == olds])

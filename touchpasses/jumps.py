"""Where the fader can jump, and how far it can go within bounds."""

from touchpasses.checks import check_track
from touchpasses.errors import InvalidBounds, InvalidLimit
from touchpasses.kinds import is_integer
from touchpasses.passes import OLD
from touchpasses.segments import formed_segments
from touchpasses.weights import NOTHING, distance, is_less, is_limit, plus, times

# Where the low and the high number of a source stand in its bound.
LOW = 1
HIGH = 2


def steepness(ahead, behind):
    """The greatest difference of the weights that a source has in two forms."""
    first = {source: weight for source, _, weight in ahead}
    second = {source: weight for source, _, weight in behind}
    greatest = NOTHING
    for source in list(first) + list(second):
        step = distance(first.get(source, NOTHING), second.get(source, NOTHING))
        if is_less(greatest, step):
            greatest = step
    return greatest


def steps_in(segments):
    """The pairs (tick, greatest difference) of the ticks of a track with these segments at which weights change."""
    found = []
    # Within a segment no weight changes.
    for (_, tick, ahead), (_, _, behind) in zip(segments, segments[1:]):
        step = steepness(ahead, behind)
        if step != NOTHING:
            found.append((tick, step))
    return found


def sudden_in(segments, limit):
    """The ticks of a track with these segments that are sudden for this limit, ascending."""
    return [tick for tick, step in steps_in(segments) if is_less(limit, step)]


def sudden(track, limit):
    """The ticks that are sudden for this limit, ascending."""
    check_track(track)
    if not is_limit(limit):
        raise InvalidLimit(limit)
    return tuple(sudden_in(formed_segments(track), limit))


def steepest(track):
    """The pair of the greatest difference of a source's weights and the least tick with it, None if there is none."""
    check_track(track)
    found = None
    for tick, step in steps_in(formed_segments(track)):
        if found is None or is_less(found[0], step):
            found = (step, tick)
    return found


def is_bound(value, source):
    """Whether this is a bound for just this source."""
    if not isinstance(value, tuple) or len(value) != 3:
        return False
    name, low, high = value
    if not isinstance(name, str) or name != source:
        return False
    return is_integer(low) and is_integer(high) and low <= high


def check_bounds(track, bounds):
    """Raises the error for what are no bounds of a track."""
    if not isinstance(bounds, tuple):
        raise InvalidBounds(None)
    sources = sorted([OLD] + list(track.names))
    for at, bound in enumerate(bounds):
        if at >= len(sources) or not is_bound(bound, sources[at]):
            raise InvalidBounds(at)
    if len(bounds) < len(sources):
        raise InvalidBounds(None)


def ends_of(bounds, side):
    """The low, or the high, numbers of all sources."""
    return {bound[0]: bound[side] for bound in bounds}


def outermost(terms, ends):
    """The number of a form with these numbers of its sources, whatever their ticks, put in."""
    total = NOTHING
    for source, _, weight in terms:
        total = plus(total, times(weight, (ends[source], 1)))
    return total


def reach(track, bounds):
    """The least and the greatest number to which the curve comes, each with the least tick at which it does."""
    check_track(track)
    check_bounds(track, bounds)
    lows, highs = ends_of(bounds, LOW), ends_of(bounds, HIGH)
    least = greatest = None
    for tick, _, terms in formed_segments(track):
        low, high = outermost(terms, lows), outermost(terms, highs)
        if least is None or is_less(low, least[0]):
            least = (low, tick)
        if greatest is None or is_less(greatest[0], high):
            greatest = (high, tick)
    return least + greatest

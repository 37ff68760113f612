"""Segments: stretches that are told by one tick, so that nothing steps through all ticks of a track.

At all ticks of a segment each pass does the same with the same weights. A source in the form of its
last tick z has the tick z there if it has the tick itself all through the segment. Any other tick
of it lies ahead of the segment and stands all through it.
"""

from touchpasses.curves import end_of, form_of

GLIDING = ("touch", "trim")


def edges_of(one_pass, length):
    """The ticks from which on a pass does something else."""
    _, mode, first, _, touches, glide, _ = one_pass
    end = end_of(one_pass, length)
    # A write that waits for a touch holds FROM; a segment of its own keeps FROM ahead of what it holds.
    edges = [first, first + 1, end]
    for begin, until in touches:
        # In a glide each tick has weights of its own.
        steps = glide if mode in GLIDING else 0
        edges.extend([begin] + list(range(until, min(until + steps, end) + 1)))
    return edges


def segments(length, passes):
    """The segments, one behind the other, of tracks of this length with any of these passes in any order."""
    edges = [0, length]
    for one in passes:
        edges.extend(edges_of(one, length))
    ordered = sorted(set(edges))
    return list(zip(ordered, ordered[1:]))


def formed_segments(track):
    """The segments of a track as triples (A, B, FORM), FORM being the form of the last tick."""
    length, passes = track.length, track.passes
    return [(first, end, form_of(passes, length, end - 1)) for first, end in segments(length, passes)]


def shown_at(segment, tick):
    """The form of a tick of a segment; the tick is only shown where a source has the tick itself."""
    _, end, terms = segment
    return tuple([(source, tick if place == end - 1 else place, weight) for source, place, weight in terms])

"""Pieces: runs (A, B, TERMS), made of segments, each as long as it can be."""

from touchpasses.segments import formed_segments, shown_at


def run_of(segment):
    """The run that a segment is."""
    first, end, _ = segment
    # A source that has always the tick itself has the place None, but in a run of one tick it has the tick.
    return first, end, shown_at(segment, first if end - first == 1 else None)


def can_be_itself(run, place):
    """Whether a source with this place has the tick itself at all ticks of a run."""
    first, end, _ = run
    return place is None or (end - first == 1 and place == first)


def joined(run, behind):
    """The run of two runs, the second one directly behind the first one; None if they make none."""
    first, _, terms = run
    _, end, others = behind
    if len(terms) != len(others):
        return None
    found = []
    for (source, place, weight), (name, spot, share) in zip(terms, others):
        if source != name or weight != share:
            return None
        if place != spot and not (can_be_itself(run, place) and can_be_itself(behind, spot)):
            return None
        found.append((source, place if place == spot else None, weight))
    return first, end, tuple(found)


def longest_runs(track):
    """The pieces of a track."""
    found = []
    for segment in formed_segments(track):
        run = run_of(segment)
        longer = joined(found[-1], run) if found else None
        if longer is None:
            found.append(run)
        else:
            found[-1] = longer
    return found

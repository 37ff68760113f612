"""Pieces: runs (A, B, TERMS), made of segments, each as long as it can be."""

from touchpasses.segments import formed_segments


def run_of(first, end, terms):
    """The run that a segment is, from the form of its last tick."""
    if end - first == 1:
        return first, end, terms
    return first, end, tuple([(name, None if tick == end - 1 else tick, weight) for name, tick, weight in terms])


def can_be_itself(run, place):
    """Whether a source with this place has the tick itself at all ticks of a run."""
    first, end, _ = run
    return place is None or (end - first == 1 and place == first)


def joined(run, behind):
    """The run of two runs, the second one directly behind the first one; None if they make none."""
    first, _, terms = run
    _, end, others = behind
    if len(terms) != len(others):
        return None
    found = []
    for (source, place, weight), (name, spot, share) in zip(terms, others):
        if source != name or weight != share:
            return None
        if place != spot and not (can_be_itself(run, place) and can_be_itself(behind, spot)):
            return None
        found.append((source, place if place == spot else None, weight))
    return first, end, tuple(found)


def longest_runs(length, passes):
    """The pieces of a track."""
    found = []
    for first, end, terms in formed_segments(length, passes):
        run = run_of(first, end, terms)
        longer = joined(found[-1], run) if found else None
        if longer is None:
            found.append(run)
        else:
            found[-1] = longer
    return found

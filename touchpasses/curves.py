"""What passes write at a single tick, and the form that comes of it."""

from touchpasses.passes import OLD
from touchpasses.weights import NOTHING, WHOLE, lowest, times


def end_of(one_pass, length):
    """The tick from which on a pass writes nothing any more."""
    _, _, _, last, _, _, tail = one_pass
    return length if tail == "on" else last


def last_touch(touches, tick):
    """The greatest touched tick up to this one, None if there is none."""
    found = None
    for first, end in touches:
        if first <= tick:
            found = min(tick, end - 1)
    return found


def written(one_pass, length, tick):
    """What a pass writes at a tick, None where it leaves the curve as it is.

    It is a tuple (HAND, SHARE, PLACE, REST) for M(HAND) * SHARE + C(PLACE) * REST; HAND is None
    where no movement counts.
    """
    _, mode, first, _, touches, glide, _ = one_pass
    if not first <= tick < end_of(one_pass, length):
        return None
    hand = last_touch(touches, tick)
    if hand is None:
        return (None, NOTHING, first, WHOLE) if mode == "write" else None
    if mode == "write" or mode == "latch":
        return hand, WHOLE, tick, NOTHING
    gone = tick - hand
    if gone > glide:
        return None
    rest = WHOLE if mode == "trim" else lowest(gone, glide + 1)
    return hand, lowest(glide + 1 - gone, glide + 1), tick, rest


def taken_by(one_pass, length, left):
    """What a pass takes of a tick with a weight, and what it leaves to the curve ahead of it.

    All three are pairs (tick, weight), the last two None for nothing.
    """
    tick, weight = left
    told = written(one_pass, length, tick)
    if told is None:
        return None, left
    hand, share, place, rest = told
    taken = None if hand is None else (hand, times(weight, share))
    return taken, (None if rest == NOTHING else (place, times(weight, rest)))


def form_of(passes, length, tick):
    """The form of a tick behind these passes."""
    terms = []
    left = (tick, WHOLE)
    # From the last pass to the first one: what lies below a hand that takes all does not count.
    for one in passes[::-1]:
        taken, left = taken_by(one, length, left)
        if taken is not None:
            terms.append((one[0], *taken))
        if left is None:
            return tuple(sorted(terms))
    terms.append((OLD, *left))
    return tuple(sorted(terms))

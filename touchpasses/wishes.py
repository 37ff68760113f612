"""Wishes for a track: what is one, whether it holds, and the first tick at which it does not."""

from touchpasses.errors import InvalidWish
from touchpasses.jumps import sudden_in
from touchpasses.kinds import is_name, is_stretch, is_word
from touchpasses.likeness import alike
from touchpasses.segments import formed_segments, shown_at
from touchpasses.stretches import first_gap
from touchpasses.texts import track_in
from touchpasses.traces import heard_in, kept_in
from touchpasses.tracks import Track
from touchpasses.weights import is_limit

HEARD = "heard"
KEPT = "kept"
FLAT = "flat"
CALM = "calm"
LIKE = "like"


def track_of(text):
    """The track with this text, None for what is the text of none."""
    told = track_in(text)
    return None if told is None else Track(told[0], told[1])


def is_wish(value, length):
    """Whether this is a wish for a track of this length."""
    if not isinstance(value, tuple) or len(value) < 2:
        return False
    word, *rest = value
    if is_word(word, (HEARD,)):
        return is_name(rest[0]) and is_stretch(tuple(rest[1:]), 0, length)
    if is_word(word, (KEPT, FLAT)):
        return is_stretch(tuple(rest), 0, length)
    if len(rest) != 1:
        return False
    if is_word(word, (CALM,)):
        return is_limit(rest[0])
    return is_word(word, (LIKE,)) and track_of(rest[0]) is not None


def check_wish(track, value):
    """Raises the error for what is no wish for a track."""
    if not is_wish(value, track.length):
        raise InvalidWish(value)


def first_other(segments, begin, end):
    """The least tick of a stretch with another form than its first tick, None if there is none."""
    wanted = None
    for segment in segments:
        first = max(segment[0], begin)
        # The forms of a segment are all equal or all unlike, so two of its ticks tell of all.
        for tick in range(first, min(first + 2, segment[1], end)):
            told = shown_at(segment, tick)
            if wanted is None:
                wanted = told
            if told != wanted:
                return tick
    return None


def first_failing(track, segments, wish):
    """The least tick at which a wish that is no "like" does not hold, None if it holds.

    The segments are those of the track.
    """
    word, *rest = wish
    if word == CALM:
        found = sudden_in(segments, rest[0])
        return found[0] if found else None
    if word == FLAT:
        return first_other(segments, rest[0], rest[1])
    if word == KEPT:
        return first_gap(kept_in(segments), rest[0], rest[1])
    name, begin, end = rest
    return first_gap(heard_in(segments, name) if name in track else (), begin, end)


def are_alike(one, other):
    """Whether two tracks are alike; they need not have the same length."""
    return one.length == other.length and alike(one, other)


def first_broken(track, wishes):
    """The index of the first one of some wishes for a track that does not hold, None if all hold."""
    segments = formed_segments(track) if wishes else []
    for at, wish in enumerate(wishes):
        if wish[0] == LIKE:
            right = are_alike(track, track_of(wish[1]))
        else:
            right = first_failing(track, segments, wish) is None
        if not right:
            return at
    return None

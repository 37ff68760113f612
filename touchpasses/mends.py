"""Whether wishes hold, and the least changes after which they do."""

from touchpasses.checks import check_track
from touchpasses.errors import InvalidChanges, InvalidWishes
from touchpasses.limits import MOST_CHANGES, MOST_WISHES
from touchpasses.parts import least_parts_of
from touchpasses.passes import behind_change, first_wrong, is_change
from touchpasses.tracks import Track
from touchpasses.wishes import check_wish, first_broken, is_wish


def holds(track, wish):
    """Whether a wish for the track holds."""
    check_track(track)
    check_wish(track, wish)
    return first_broken(track, (wish,)) is None


def check_wishes(track, wishes):
    """Raises the error for what is no tuple of up to six wishes for a track."""
    if not isinstance(wishes, tuple):
        raise InvalidWishes(None)
    for at, wish in enumerate(wishes):
        if at >= MOST_WISHES or not is_wish(wish, track.length):
            raise InvalidWishes(at)


def check_changes(track, changes):
    """Raises the error for what is no tuple of up to six changes, each of any value, for a track."""
    if not isinstance(changes, tuple):
        raise InvalidChanges(None)
    for at, change in enumerate(changes):
        if at >= MOST_CHANGES or not is_change(change, track.passes):
            raise InvalidChanges(at)


def track_behind(track, changes):
    """The track behind all of these changes, None if there is none."""
    passes = track.passes
    for change in changes:
        passes = behind_change(passes, change)
    # A change alone need not give a track, so only the row behind all of them is looked at.
    return Track(track.length, passes) if first_wrong(passes, track.length) is None else None


def do_mend(track, wishes, changes):
    """Whether all these wishes hold with all of these changes."""
    behind = track_behind(track, changes)
    return behind is not None and first_broken(behind, wishes) is None


def mends(track, wishes, changes):
    """The least sets of changes that mend the track for all these wishes."""
    check_track(track)
    check_wishes(track, wishes)
    check_changes(track, changes)
    # Of two changes of one part the last one counts, so what a set with both of them does, the set without
    # the first one does: no such set is least.
    return least_parts_of(len(changes), lambda part: do_mend(track, wishes, [changes[k] for k in part]))

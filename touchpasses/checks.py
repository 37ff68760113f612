"""The errors of parameters that stand in many calls."""

from touchpasses.errors import InvalidTick, NotATrack, OtherLength, UnknownName
from touchpasses.kinds import is_between
from touchpasses.tracks import Track


def check_track(value):
    """Raises the error for what is no track."""
    if not isinstance(value, Track):
        raise NotATrack(value)


def check_tick(track, value):
    """Raises the error for what is no tick of a track."""
    if not is_between(value, 0, track.length - 1):
        raise InvalidTick(value)


def check_name(track, value):
    """Raises the error for what is no name of a pass of a track."""
    if value not in track:
        raise UnknownName(value)


def check_pair(one, other):
    """Raises the errors for what are no two tracks of the same length."""
    check_track(one)
    check_track(other)
    if one.length != other.length:
        raise OtherLength(other)

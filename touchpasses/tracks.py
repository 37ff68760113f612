"""Tracks: a length and a row of passes."""

from touchpasses.errors import InvalidChange, InvalidLength, InvalidPass, InvalidPasses
from touchpasses.errors import InvalidPlace, InvalidText, TooMany, UnknownName
from touchpasses.kinds import is_between
from touchpasses.limits import MOST_PASSES
from touchpasses.passes import behind_change, first_wrong, is_change, is_length, is_pass
from touchpasses.passes import place_of, put_in, taken_out
from touchpasses.texts import rows_of, track_in


class Track:
    """A length and a row of passes; a track never changes, its methods give other tracks."""

    def __init__(self, length, passes=()):
        if not is_length(length):
            raise InvalidLength(length)
        if not isinstance(passes, tuple):
            raise InvalidPasses(None)
        wrong = first_wrong(passes, length)
        if wrong is not None:
            raise InvalidPasses(wrong)
        self._length = length
        self._passes = passes

    @classmethod
    def read(cls, text):
        """The track with this text."""
        told = track_in(text)
        if told is None:
            raise InvalidText(text)
        length, passes = told
        return cls(length, passes)

    @property
    def length(self):
        """The number of ticks."""
        return self._length

    @property
    def passes(self):
        """The passes, in their order."""
        return self._passes

    @property
    def names(self):
        """The names of the passes, in their order."""
        return tuple([one[0] for one in self._passes])

    def __len__(self):
        return len(self._passes)

    def __bool__(self):
        # Without this a track with no passes would be false, as its len is 0.
        return True

    def __eq__(self, other):
        return isinstance(other, Track) and self._length == other._length and self._passes == other._passes

    def __str__(self):
        return "\n".join(rows_of(self._length, self._passes))

    def __contains__(self, x):
        return place_of(self._passes, x) is not None

    def __getitem__(self, at):
        return self._passes[self._known_place(at)]

    def __iter__(self):
        raise TypeError("a track is not iterated over: take its passes or its names")

    def _known_place(self, name):
        place = place_of(self._passes, name)
        if place is None:
            raise UnknownName(name)
        return place

    def put(self, one_pass, place=None):
        """The track with this pass more, at this place, or behind all others."""
        many = len(self._passes)
        if not is_pass(one_pass, self._length) or place_of(self._passes, one_pass[0]) is not None:
            raise InvalidPass(one_pass)
        if place is not None and not is_between(place, 0, many):
            raise InvalidPlace(place)
        if many >= MOST_PASSES:
            raise TooMany(MOST_PASSES)
        at = many if place is None else place
        return Track(self._length, put_in(self._passes, at, one_pass))

    def without(self, name):
        """The track without the pass with this name."""
        return Track(self._length, taken_out(self._passes, self._known_place(name)))

    def moved(self, name, place):
        """The track with the pass with this name taken out and put in again at this place."""
        at = self._known_place(name)
        if not is_between(place, 0, len(self._passes) - 1):
            raise InvalidPlace(place)
        return Track(self._length, put_in(taken_out(self._passes, at), place, self._passes[at]))

    def changed(self, change):
        """The track behind a change of one part of one of its passes."""
        if not is_change(change, self._passes):
            raise InvalidChange(change)
        passes = behind_change(self._passes, change)
        if first_wrong(passes, self._length) is not None:
            raise InvalidChange(change)
        return Track(self._length, passes)

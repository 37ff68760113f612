"""Shelves: tracks under names, with wishes."""

from touchpasses.checks import check_track
from touchpasses.errors import Broken, InUse, InvalidName, InvalidWish, UnknownName
from touchpasses.histories import History, Trial, lifted
from touchpasses.kinds import is_name, is_word
from touchpasses.limits import MOST_LENGTH
from touchpasses.wishes import are_alike, first_broken, is_wish


def is_shelf_wish(value):
    """Whether this is a wish for a shelf, whatever stands under its names."""
    if not isinstance(value, tuple):
        return False
    if len(value) == 2:
        # Which track stands under the name can change, so any stretch of the longest track will do.
        return is_name(value[0]) and is_wish(value[1], MOST_LENGTH)
    if len(value) != 3:
        return False
    word, one, other = value
    return is_word(word, ("alike",)) and is_name(one) and is_name(other)


def names_in(wish):
    """The names that a wish for a shelf is about."""
    return wish[:1] if len(wish) == 2 else wish[1:]


def is_met(tracks, wish):
    """Whether a wish for a shelf holds with these tracks under their names."""
    if len(wish) == 3:
        _, one, other = wish
        return are_alike(tracks[one], tracks[other])
    name, inner = wish
    track = tracks[name]
    return is_wish(inner, track.length) and first_broken(track, (inner,)) is None


class Shelf:
    """Tracks under names; behind each change all wishes hold."""

    def __init__(self):
        # A pair of a dict of tracks, which is replaced and never changed, and the tuple of the wishes.
        self._history = History(({}, ()))

    @property
    def names(self):
        """The names under which there are tracks, ascending."""
        return tuple(sorted(self._history.now.held[0]))

    @property
    def wishes(self):
        """The wishes, in their order."""
        return self._history.now.held[1]

    @property
    def changes(self):
        """How many changes can be taken back."""
        return self._history.now.many

    def __len__(self):
        return len(self._history.now.held[0])

    def __bool__(self):
        # Without this an empty shelf would be false, as its len is 0.
        return True

    def __eq__(self, other):
        return self is other

    def __contains__(self, x):
        return isinstance(x, str) and x in self._history.now.held[0]

    def __getitem__(self, at):
        if at not in self:
            raise UnknownName(at)
        return self._history.now.held[0][at]

    def __setitem__(self, at, worth):
        if not is_name(at):
            raise InvalidName(at)
        check_track(worth)
        before, wishes = self._history.now.held
        tracks = {**before, at: worth}
        for index, wish in enumerate(wishes):
            # The other wishes are about tracks that stay as they are, so they go on to hold.
            if at in names_in(wish) and not is_met(tracks, wish):
                raise Broken(index)
        self._history.go_on((tracks, wishes))

    def __iter__(self):
        raise TypeError("a shelf is not iterated over: take its names")

    def remove(self, name):
        """Takes the track under this name away."""
        if name not in self:
            raise UnknownName(name)
        before, wishes = self._history.now.held
        for index, wish in enumerate(wishes):
            if name in names_in(wish):
                raise InUse(index)
        self._history.go_on(({one: before[one] for one in before if one != name}, wishes))

    def wish(self, wish):
        """Makes a wish, behind the others."""
        if not is_shelf_wish(wish):
            raise InvalidWish(wish)
        for name in names_in(wish):
            if name not in self:
                raise UnknownName(name)
        tracks, wishes = self._history.now.held
        if not is_met(tracks, wish):
            raise Broken(len(wishes))
        self._history.go_on((tracks, wishes + (wish,)))

    def lift(self, index):
        """Takes a wish away."""
        tracks, wishes = self._history.now.held
        self._history.go_on((tracks, lifted(wishes, index)))

    def undo(self):
        """Takes back the last change that is not taken back yet."""
        self._history.go_back()

    def trial(self):
        """For a `with` statement: if its rows end with an exception, the shelf is as it was when they began."""
        return Trial(self, self._history)

    def tried(self, action):
        """Calls the action with the shelf within a trial, and returns what it returns."""
        with self.trial():
            return action(self)

"""Desks: tracks that are worked at, with promises."""

from touchpasses.checks import check_track
from touchpasses.errors import Broken
from touchpasses.histories import History, Trial, lifted
from touchpasses.wishes import check_wish, first_broken


class Desk:
    """A track that is worked at; behind each change all promises hold."""

    def __init__(self, track):
        check_track(track)
        self._history = History((track, ()))

    @property
    def track(self):
        """The track as it is now."""
        return self._history.now.held[0]

    @property
    def promises(self):
        """The promises, in their order."""
        return self._history.now.held[1]

    @property
    def changes(self):
        """How many changes can be taken back."""
        return self._history.now.many

    def __len__(self):
        return len(self.track.passes)

    def __bool__(self):
        # Without this a desk with no passes would be false, as its len is 0.
        return True

    def __eq__(self, other):
        return self is other

    def _go_on(self, track, promises):
        """Makes a change, if all these promises hold then."""
        broken = first_broken(track, promises)
        if broken is not None:
            raise Broken(broken)
        self._history.go_on((track, promises))

    def put(self, one_pass, place=None):
        """Puts a pass at this place, or behind all others."""
        self._go_on(self.track.put(one_pass, place), self.promises)

    def take(self, name):
        """Takes out the pass with this name."""
        self._go_on(self.track.without(name), self.promises)

    def move(self, name, place):
        """Takes out the pass with this name and puts it in again at this place."""
        self._go_on(self.track.moved(name, place), self.promises)

    def change(self, change):
        """Changes one part of one pass."""
        self._go_on(self.track.changed(change), self.promises)

    def promise(self, wish):
        """Makes a promise, behind the others."""
        check_wish(self.track, wish)
        self._go_on(self.track, self.promises + (wish,))

    def lift(self, index):
        """Takes a promise away."""
        self._history.go_on((self.track, lifted(self.promises, index)))

    def undo(self):
        """Takes back the last change that is not taken back yet."""
        self._history.go_back()

    def trial(self):
        """For a `with` statement: if its rows end with an exception, the desk is as it was when they began."""
        return Trial(self, self._history)

    def tried(self, action):
        """Calls the action with the desk within a trial, and returns what it returns."""
        with self.trial():
            return action(self)

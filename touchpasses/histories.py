"""Changes that are taken back, and trials: what desks and shelves have in common."""

from touchpasses.errors import InvalidIndex, NothingToUndo
from touchpasses.kinds import is_between
from touchpasses.passes import taken_out


class Moment:
    """What is held at a moment, and the moment ahead of the last change; a moment never changes.

    The beginning of a trial also knows the beginning of the trial around it.
    """

    def __init__(self, held, before, around=None):
        self.held = held
        self.before = before
        self.around = around
        self.many = 0 if before is None else before.many + 1


class History:
    """What is held now, with all moments that can be gone back to."""

    def __init__(self, held):
        self.now = Moment(held, None)

    def go_on(self, held):
        """Makes a change: this is held now."""
        self.now = Moment(held, self.now)

    def go_back(self):
        """Takes back the last change that is not taken back yet."""
        if self.now.before is None:
            raise NothingToUndo()
        self.now = self.now.before


class Trial:
    """For a `with` statement whose rows are taken back if they end with an exception."""

    def __init__(self, owner, history):
        self._owner = owner
        self._history = history
        self._start = None

    def __enter__(self):
        now = self._history.now
        # The beginnings are chained, so that one object serves trials that stand within each other.
        self._start = Moment(now.held, now.before, self._start)
        return self._owner

    def __exit__(self, kind, value, trace):
        history = self._history
        if kind is not None:
            history.now = self._start
        # What may end next is the trial around the one that ends here.
        self._start = self._start.around


def lifted(row, index):
    """The row without the element at this index; raises the error for what is no index of it."""
    if not is_between(index, 0, len(row) - 1):
        raise InvalidIndex(index)
    return taken_out(row, index)

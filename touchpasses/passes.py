"""Passes and rows of passes, as plain tuples: which ones are right, and how one becomes another one."""

from touchpasses.kinds import is_between, is_name, is_stretch, is_word
from touchpasses.limits import MOST_GLIDE, MOST_LENGTH, MOST_PASSES, MOST_TOUCHES

OLD = "old"
MODES = ("write", "latch", "touch", "trim")
TAILS = ("stop", "on")
SIZE = 7
# The name is no part here: a change cannot give a pass another name.
PARTS = {"mode": 1, "from": 2, "to": 3, "touches": 4, "glide": 5, "tail": 6}


def is_length(value):
    """Whether this is a length of a track."""
    return is_between(value, 1, MOST_LENGTH)


def are_touches(value, first, last):
    """Whether these are the touches of a pass from first to last."""
    if not isinstance(value, tuple) or len(value) > MOST_TOUCHES:
        return False
    low = first
    for stretch in value:
        if not is_stretch(stretch, low, last):
            return False
        # Stretches that meet would be one touch, so a tick stays free between two.
        low = stretch[1] + 1
    return True


def is_pass(value, length):
    """Whether this is a pass of a track of this length."""
    if not isinstance(value, tuple) or len(value) != SIZE:
        return False
    name, mode, first, last, touches, glide, tail = value
    if not is_name(name) or name == OLD:
        return False
    if not is_word(mode, MODES) or not is_word(tail, TAILS):
        return False
    # What holds for the ends of a stretch of the whole track holds for FROM and TO, too.
    if not is_stretch((first, last), 0, length):
        return False
    return are_touches(touches, first, last) and is_between(glide, 0, MOST_GLIDE)


def first_wrong(passes, length):
    """The index of the first element of a tuple that keeps it from being the row of a track, or None."""
    names = []
    for at, one in enumerate(passes):
        if at >= MOST_PASSES or not is_pass(one, length) or one[0] in names:
            return at
        names.append(one[0])
    return None


def place_of(passes, name):
    """The index of the pass with this name, None if there is none, whatever the name is."""
    if isinstance(name, str):
        for at, one in enumerate(passes):
            if one[0] == name:
                return at
    return None


def is_change(value, passes):
    """Whether this is a triple of the name of one of these passes, a word for a part and any value."""
    if not isinstance(value, tuple) or len(value) != 3:
        return False
    name, part, _ = value
    return place_of(passes, name) is not None and isinstance(part, str) and part in PARTS


def put_in(row, at, new):
    """The tuple with this new element, at this index then."""
    return row[:at] + (new,) + row[at:]


def taken_out(row, at):
    """The tuple without the element at this index."""
    return row[:at] + row[at + 1:]


def replaced(row, at, new):
    """The tuple with this new element in the place of the one at this index."""
    return put_in(taken_out(row, at), at, new)


def behind_change(passes, change):
    """The row of passes behind a change, which need not be the row of a track."""
    name, part, value = change
    at = place_of(passes, name)
    return replaced(passes, at, replaced(passes[at], PARTS[part], value))

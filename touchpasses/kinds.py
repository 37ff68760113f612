"""What the values of a pass are by themselves: integers, names, words, stretches."""

LETTERS = "abcdefghijklmnopqrstuvwxyz"
DIGITS = "0123456789"
MOST_SIGNS = 8


def is_integer(value):
    """Whether this is an integer; True and False are none."""
    return isinstance(value, int) and not isinstance(value, bool)


def is_between(value, low, high):
    """Whether this is an integer from low to high, both included."""
    return is_integer(value) and low <= value <= high


def is_name(value):
    """Whether this is a name."""
    if not isinstance(value, str) or not 1 <= len(value) <= MOST_SIGNS:
        return False
    return value[0] in LETTERS and all([sign in LETTERS + DIGITS for sign in value])


def is_word(value, words):
    """Whether this is one of these words."""
    return isinstance(value, str) and value in words


def is_stretch(value, low, high):
    """Whether this is a stretch that begins at low or later and ends at high or earlier."""
    if not isinstance(value, tuple) or len(value) != 2:
        return False
    return is_between(value[0], low, high) and is_between(value[1], value[0] + 1, high)

"""The texts of tracks: written, and read word by word."""

from touchpasses.kinds import DIGITS
from touchpasses.passes import first_wrong, is_length

MOST_DIGITS = 13
FEWEST_WORDS = 6


def row_of(one_pass):
    """The row of a pass."""
    name, mode, first, last, touches, glide, tail = one_pass
    words = ["pass", name, mode, str(first), str(last), str(glide), tail]
    return " ".join(words + [f"{a}-{b}" for a, b in touches])


def rows_of(length, passes):
    """The rows of a track."""
    return [f"track {length}"] + [row_of(one) for one in passes]


def number_in(word):
    """The number that a word tells, None if it is not written as numbers are."""
    # No number of a track has more digits; the bound also keeps `int` away from endless ones.
    if not 1 <= len(word) <= MOST_DIGITS:
        return None
    if not all([sign in DIGITS for sign in word]):
        return None
    if word[0] == "0" and word != "0":
        return None
    return int(word)


def stretch_in(word):
    """The pair of numbers that a word `A-B` tells, None for another word."""
    numbers = [number_in(part) for part in word.split("-")]
    if len(numbers) != 2 or None in numbers:
        return None
    return numbers[0], numbers[1]


def pass_in(words):
    """The tuple that the words behind `pass` tell, None if they tell none; it need not be a right pass."""
    if len(words) < FEWEST_WORDS:
        return None
    name, mode, first, last, glide, tail, *rest = words
    numbers = [number_in(word) for word in (first, last, glide)]
    touches = [stretch_in(word) for word in rest]
    if None in numbers or None in touches:
        return None
    return name, mode, numbers[0], numbers[1], tuple(touches), numbers[2], tail


def pass_in_row(row):
    """The tuple that the row of a pass tells, None for another row."""
    word, *rest = row.split(" ")
    return pass_in(rest) if word == "pass" else None


def length_in_row(row):
    """The length that the row of a track tells, None for another row."""
    word, *rest = row.split(" ")
    if word != "track" or len(rest) != 1:
        return None
    length = number_in(rest[0])
    return length if is_length(length) else None


def track_in(text):
    """The pair of the length and the passes of the track with this text, None if there is none."""
    if not isinstance(text, str):
        return None
    first, *rest = text.split("\n")
    length = length_in_row(first)
    if length is None:
        return None
    passes = tuple([pass_in_row(row) for row in rest])
    return (length, passes) if first_wrong(passes, length) is None else None

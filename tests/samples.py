"""Passes, right ones and wrong ones, what is no track, and a test case that looks closely at errors."""

import unittest

from touchpasses.errors import NotATrack
from touchpasses.tracks import Track

A = ("a", "touch", 2, 8, ((3, 5),), 3, "stop")
B = ("b", "latch", 4, 10, ((6, 7),), 0, "stop")
C = ("c", "trim", 0, 6, ((1, 3),), 1, "stop")
D = ("d", "write", 4, 8, ((6, 7),), 0, "on")
PLACES = {"name": 0, "mode": 1, "from": 2, "to": 3, "touches": 4, "glide": 5, "tail": 6}


def a_pass(**parts):
    """The pass A with other parts."""
    row = list(A)
    for part, value in parts.items():
        row[PLACES[part.rstrip("_")]] = value
    return tuple(row)


def named(*names):
    """Passes that differ in their names only."""
    return tuple(a_pass(name=name) for name in names)


EIGHT = named("a", "b", "c", "d", "e", "f", "g", "h")

# Each of these is a pass of a track of 12 ticks.
RIGHT = (
    A, B, C, D,
    a_pass(name="a1"), a_pass(name="z"), a_pass(name="abcdefgh"), a_pass(name="z1234567"), a_pass(name="olda"),
    a_pass(name="ol"), a_pass(name="x0y9"),
    a_pass(mode="write"), a_pass(mode="latch"), a_pass(mode="touch"), a_pass(mode="trim"),
    a_pass(from_=0), a_pass(from_=3), a_pass(to=5), a_pass(to=12), a_pass(from_=0, to=12),
    a_pass(from_=3, to=5), a_pass(from_=11, to=12, touches=()), a_pass(from_=0, to=1, touches=()),
    a_pass(touches=()), a_pass(touches=((2, 8),)), a_pass(touches=((2, 3),)), a_pass(touches=((7, 8),)),
    a_pass(touches=((2, 3), (4, 8))), a_pass(touches=((2, 4), (5, 6), (7, 8))),
    a_pass(from_=0, to=12, touches=((0, 1), (2, 3), (4, 5), (6, 7), (8, 9), (10, 12))),
    a_pass(glide=0), a_pass(glide=1), a_pass(glide=99), a_pass(glide=100),
    a_pass(tail="stop"), a_pass(tail="on"),
)


class Everything:
    """A value that calls itself equal to all others, and still is none of them."""

    def __eq__(self, other):
        return True

    __hash__ = None


NO_TUPLES = (None, True, False, 0, 7, "", "a", "pass", b"a", [], ["a"], {}, {"a": 1}, object(), Everything())

NO_TRACKS = NO_TUPLES + (str(Track(12, (A,))), A, (A,), (12, (A,)), (), Track, [Track(12)], (Track(12), Track(12)),
                         NotATrack(0))

WRONG_NAMES = (
    "", "old", "A", "aB", "1a", "9", "abcdefghi", "a-b", "a_b", "_a", "a b", " a", "a ", "a\n", "a.", "-",
    None, True, 0, 1, ("a",), ["a"], {"a": 1}, b"a", (),
)
WRONG_MODES = ("", "Touch", "TOUCH", "touc", "touches", "touch ", " touch", "old", "stop", "read", "write latch",
               None, True, 0, 1, ("touch",), ["touch"], {"touch": 1}, b"touch")
WRONG_FROMS = (-1, -10 ** 12, 4, 8, 9, 12, 10 ** 12, True, False, None, "2", b"2", "", (2,), [2], {2: 2})
WRONG_TOS = (2, 1, 0, -1, 3, 4, 13, 10 ** 12, True, False, None, "8", b"8", "", (8,), [8], {8: 8})
WRONG_TOUCHES = (
    None, True, 3, "", "3-5", b"35", [], [(3, 5)], {}, {3: 5}, {(3, 5): 1},
    (3, 5), (3,), (None,), (True,), ("3-5",), ("35",), ([3, 5],), ((),), ((3,),), ((3, 5, 6),), (((3, 5),),),
    ({3: 1, 5: 1},), ((3, None),), ((None, 5),), (("3", "5"),), (("3", 5),), ((3, "5"),), (((3,), 5),),
    ((3, 5), None), ((3, 5), [6, 7]), ((3, 5), (6,)), ((3, 5), ()),
    ((3, 3),), ((5, 3),), ((8, 8),), ((2, 2),),
    ((1, 3),), ((0, 8),), ((-1, 3),), ((6, 9),), ((2, 9),), ((8, 9),), ((0, 1),), ((9, 10),),
    ((3, 5), (5, 6)), ((3, 5), (4, 6)), ((3, 5), (3, 5)), ((2, 8), (3, 5)), ((5, 6), (3, 4)), ((6, 7), (2, 3)),
    ((2, 3), (4, 5), (5, 6)), ((2, 3), (4, 6), (5, 7)), ((2, 3), (4, 5), (6, 6)), ((2, 3), (4, 5), (7, 9)),
)
WRONG_GLIDES = (-1, 101, 10 ** 12, True, False, None, "3", b"3", "", (3,), [3], {3: 3})
WRONG_TAILS = ("", "Stop", "STOP", "off", "On", "sto", "stop ", " on", "touch",
               None, True, False, 0, 1, ("stop",), ["stop"], {"on": 1}, b"stop")

# None of these is the name of a pass of a track with the passes A, B, C, or of one without passes.
NO_NAMES = ("", "x", "A", "old", "aa", " a", "a ", None, True, False, 0, 1, -1, (), ("a",), ("a", "b"), A, [],
            ["a"], {}, {"a": 1}, b"a", object(), Everything(), [["a"]], ("a", ["a"]))

# Passes that would be right if True and False were integers.
WRONG_TRUTHS = (
    a_pass(from_=False, to=8), a_pass(from_=True, to=8), a_pass(from_=0, to=True, touches=()),
    a_pass(from_=0, touches=((False, 5),)), a_pass(from_=0, touches=((True, 5),)),
    a_pass(from_=0, touches=((0, True),)), a_pass(glide=True), a_pass(glide=False),
)
WRONG_KINDS = NO_TUPLES + (
    list(A), (), (A,), A[:6], A[1:], A + ("on",), A + (None,), A[::-1], " ".join(("a", "touch")), dict.fromkeys(A),
    ("a", "touch", 2, 8, 3, "stop", ((3, 5),)), ("a", "touch", 2, 8, ((3, 5),), "stop", 3),
)

# None of these is a pass of a track of 12 ticks.
WRONG = WRONG_KINDS + WRONG_TRUTHS + tuple(
    a_pass(**{part: value})
    for part, values in (("name", WRONG_NAMES), ("mode", WRONG_MODES), ("from", WRONG_FROMS), ("to", WRONG_TOS),
                         ("touches", WRONG_TOUCHES), ("glide", WRONG_GLIDES), ("tail", WRONG_TAILS))
    for value in values
) + (
    a_pass(from_=0, to=13), a_pass(from_=12, to=13, touches=()), a_pass(from_=12, to=12, touches=()),
    a_pass(from_=5, to=5, touches=()), a_pass(from_=6, to=5, touches=()),
    a_pass(from_=0, to=12, touches=((0, 1), (2, 3), (4, 5), (6, 7), (8, 9), (10, 11), (11, 12))),
)


class Case(unittest.TestCase):
    """A test case for errors with attributes."""

    def refused(self, error, call, *args, **named_args):
        """The error that the call raises, which is of just this class."""
        with self.assertRaises(error) as caught:
            call(*args, **named_args)
        self.assertIs(type(caught.exception), error)
        return caught.exception

    def refused_given(self, error, given, call, *args, **named_args):
        """The call raises this error with just this value."""
        self.assertIs(self.refused(error, call, *args, **named_args).given, given)

    def refused_index(self, error, index, call, *args, **named_args):
        """The call raises this error with this index."""
        found = self.refused(error, call, *args, **named_args).index
        self.assertEqual((type(found), found), (type(index), index))

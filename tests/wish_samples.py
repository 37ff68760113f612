"""Limits, texts and wishes: right ones, and values that are none."""

from tests.samples import A, B, C, NO_TUPLES, WRONG_NAMES, Everything
from touchpasses.tracks import Track

ONE, TWO = Track(12, (A,)), Track(12, (A, B))
MOST = 10 ** 12

LIMITS = ((0, 1), (1, 1), (1, 2), (1, 101), (100, 101), (999, 1000), (10 ** 37, 10 ** 38 + 1))
NO_LIMITS = NO_TUPLES + (
    (), (1,), (1, 2, 3), (0, 1, 1), (1, 2, None), [1, 2], [0, 1], ((1, 2),), ((0, 1), (1, 1)), "1/2", "12",
    (2, 4), (0, 2), (0, 7), (2, 2), (101, 101), (50, 100),
    (1, 0), (0, 0), (0, -1), (1, -2), (-1, -2), (-1, -1), (-1, 1), (-1, 2), (-10 ** 12, 1), (2, 1), (3, 2), (102, 101),
    (True, 1), (False, 1), (True, 2), (1, True), (0, True), (True, True), (None, 1), (0, None), ("0", "1"), ("0", 1),
    (0, "1"), ((0,), 1), ([0], 1), (0, [1]), (0, {}), (b"0", 1), (object(), 1), (Everything(), 1), (1, Everything()),
    ("old", 0, 5), A,
)

TEXTS = ("track 1", "track 12", "track 1000000000000", str(ONE), str(TWO), str(Track(9, (A, C))))
NO_TEXTS = NO_TUPLES + (
    "track", "track ", "track 0", "track 012", "track +12", "track -1", "track 12 ", " track 12", "track  12",
    "Track 12", "track 12\n", "\ntrack 12", "track 12\n\n", "track 1000000000001", "track 12 13", "pass 12",
    "track 12\npass a", "track 12\npass a touch 2 13 3 stop 3-5", "track 12\npass A touch 2 8 3 stop 3-5",
    "track 12\npass old touch 2 8 3 stop 3-5", str(ONE) + "\n" + str(ONE), str(ONE) + "\n" + str(ONE)[9:],
    str(ONE) + " ", str(ONE) + " 5-6", b"track 12", ("track 12",), ["track 12"], ONE, 12, (12, (A,)),
)

# Ends of a stretch that are none for any track.
NO_STRETCHES = (
    (-1, 3), (-2, -1), (-1, 0), (3, 3), (0, 0), (5, 3), (12, 12), (12, 0), (True, 3), (False, 3), (0, True),
    (False, True), (None, 3), (3, None), ("3", "5"), ("3", 5), (3, "5"), ((3,), 5), (3, (5,)), ([3], 5), (3, [5]),
    ({}, 5), (3, {}), (b"3", 5), (object(), 5), (Everything(), 5), (3, Everything()),
)
# Stretches that go beyond a track of 12 ticks.
BEYOND = ((0, 13), (11, 13), (12, 13), (3, 10 ** 6), (10 ** 6, 10 ** 6 + 1), (0, MOST), (MOST - 1, MOST))
# Stretches that go beyond all tracks.
BEYOND_ALL = ((0, MOST + 1), (MOST, MOST + 1), (MOST, MOST), (MOST + 1, MOST + 2), (3, 10 ** 39))
NO_WISH_NAMES = tuple(name for name in WRONG_NAMES if name != "old") + (Everything(), object(), ("heard",))


def with_stretches(stretches):
    """Wishes with these stretches."""
    return tuple(wish for first, end in stretches
                 for wish in (("heard", "a", first, end), ("kept", first, end), ("flat", first, end)))


WISHES = with_stretches(((0, 1), (0, 12), (11, 12), (3, 5), (5, 7))) + tuple(
    ("calm", limit) for limit in LIMITS) + tuple(("like", text) for text in TEXTS) + tuple(
    ("heard", name, 0, 1) for name in ("b", "x", "old", "ol", "old0", "abcdefgh", "z1234567"))

# None of these is a wish for any track.
NEVER_WISHES = NO_TUPLES + with_stretches(NO_STRETCHES + BEYOND_ALL) + tuple(
    ("calm", limit) for limit in NO_LIMITS) + tuple(("like", text) for text in NO_TEXTS) + tuple(
    ("heard", name, 3, 5) for name in NO_WISH_NAMES) + (
    (), ("heard",), ("heard", "a"), ("heard", "a", 3), ("heard", "a", 3, 5, 6), ("heard", "a", 3, 5, None),
    ("heard", "a", (3, 5)), ("heard", 3, 5), ("heard", 3, 5, "a"), ("heard", ("a", 3, 5)), ("heard", "a", "b", 3, 5),
    ("kept",), ("kept", 3), ("kept", 3, 5, 7), ("kept", (3, 5)), ("kept", "a", 3, 5), ("kept", 3, 5, None),
    ("flat",), ("flat", 3), ("flat", 3, 5, 7), ("flat", (3, 5)), ("flat", "a", 3, 5), ("flat", (1, 2)),
    ("calm",), ("calm", 1, 2), ("calm", (1, 2), (1, 2)), ("calm", 3, 5), ("calm", (1, 2), None), ("calm", "track 12"),
    ("like",), ("like", "track 12", "track 12"), ("like", 3, 5), ("like", (1, 2)), ("like", "track 12", None),
    ("",), ("", 3, 5), ("Kept", 3, 5), ("KEPT", 3, 5), ("keep", 3, 5), ("kept ", 3, 5), ("ke", 3, 5), ("old", 3, 5),
    ("hear", "a", 3, 5), ("Heard", "a", 3, 5), ("heard ", "a", 3, 5), ("a", 3, 5), ("flatten", 3, 5),
    ("flat calm", 3, 5),
    ("calmer", (1, 2)), ("alike", "track 12"), ("unlike", "track 12"), ("alike", "a", "b"), ("a", ("kept", 3, 5)),
    ("sudden", (1, 2)), ("likes", "track 12"), ("form", 3, 5),
    (("kept", 3, 5),), ("kept", ("kept", 3, 5)), (("kept",), 3, 5), (["kept"], 3, 5), ({}, 3, 5), (None, 3, 5),
    (True, 3, 5), (0, 3, 5), (b"kept", 3, 5), (Everything(), 3, 5), (Everything(), "a", 3, 5), (Everything(), (1, 2)),
    (3, 5), (3, 5, "kept"), ["kept", 3, 5], ["calm", (1, 2)], ["like", "track 12"], ["heard", "a", 3, 5],
    ("calm", [1, 2]), {"kept": 3}, "kept 3 5", "calm", A, ONE,
)
# None of these is a wish for a track of 12 ticks.
NO_WISHES = NEVER_WISHES + with_stretches(BEYOND)

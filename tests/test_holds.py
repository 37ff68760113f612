"""holds: each form of a wish for a track."""

import unittest

from tests.plain import NAMES, Dice, any_change, any_tracks
from tests.plain_wishes import any_stretch, any_wish, plain_holds
from tests.samples import A, B, C, D, NO_TRACKS, Case
from tests.wish_samples import BEYOND, LIMITS, NO_WISHES, WISHES, with_stretches
from touchpasses import errors, mends as mends_file
from touchpasses.errors import InvalidWish, NotATrack
from touchpasses.mends import holds
from touchpasses.tracks import Track

MOST = 10 ** 12
TWO = Track(12, (A, B))


class HoldsCase(Case):

    def tells(self, track, wish, wanted):
        for told in (holds(track, wish), holds(wish=wish, track=track)):
            self.assertIs(told, wanted, f"{wish} of {track}")

    def tells_all(self, track, right=(), wrong=()):
        for wish in right:
            self.tells(track, wish, True)
        for wish in wrong:
            self.tells(track, wish, False)


class WrittenOut(HoldsCase):

    def test_the_example(self):
        self.tells_all(TWO, (("heard", "a", 3, 5), ("flat", 6, 10), ("calm", (1, 1))),
                       (("kept", 0, 4), ("heard", "x", 0, 1)))

    def test_heard(self):
        self.tells_all(TWO, (("heard", "a", 3, 5), ("heard", "a", 3, 4), ("heard", "a", 4, 5), ("heard", "b", 6, 7)),
                       (("heard", "a", 2, 5), ("heard", "a", 3, 6), ("heard", "a", 0, 12), ("heard", "a", 5, 6),
                        ("heard", "b", 5, 7), ("heard", "b", 6, 8), ("heard", "b", 3, 5)))

    def test_a_name_that_is_no_pass_is_not_heard(self):
        for first, end in ((0, 1), (3, 5), (0, 12), (11, 12)):
            for name in ("x", "old", "ol", "olda", "aa", "abcdefgh"):
                self.tells(TWO, ("heard", name, first, end), False)

    def test_the_old_curve_is_no_movement(self):
        """All its ticks are heard, but `old` is the name of no pass."""
        self.tells(Track(12), ("heard", "old", 0, 12), False)
        self.tells(Track(12), ("kept", 0, 12), True)

    def test_names_beside_old(self):
        row = tuple((name, "touch", k, k + 1, ((k, k + 1),), 0, "stop") for k, name in enumerate(("old0", "ol")))
        self.tells_all(Track(4, row), (("heard", "old0", 0, 1), ("heard", "ol", 1, 2)),
                       (("heard", "old", 0, 1), ("heard", "old", 2, 3), ("heard", "old0", 1, 2)))

    def test_ticks_that_are_heard_elsewhere(self):
        """The tick 3 of the movement is covered where it was, but held further on."""
        low = ("l", "latch", 2, 10, ((2, 4),), 0, "stop")
        high = ("h", "touch", 3, 6, ((3, 6),), 0, "stop")
        self.tells_all(Track(12, (low, high)), (("heard", "l", 2, 4), ("heard", "h", 3, 6)), (("heard", "l", 2, 5),))

    def test_stretches_that_are_heard_with_a_gap(self):
        track = Track(12, (("a", "touch", 0, 12, ((1, 3), (4, 6), (9, 12)), 0, "stop"),))
        self.tells_all(track, (("heard", "a", 1, 3), ("heard", "a", 4, 6), ("heard", "a", 5, 6), ("heard", "a", 9, 12)),
                       (("heard", "a", 1, 4), ("heard", "a", 1, 6), ("heard", "a", 3, 6), ("heard", "a", 3, 4),
                        ("heard", "a", 8, 12), ("heard", "a", 0, 3), ("heard", "a", 1, 12)))

    def test_kept(self):
        self.tells_all(TWO, (("kept", 0, 3), ("kept", 0, 1), ("kept", 2, 3), ("kept", 10, 12), ("kept", 11, 12)),
                       (("kept", 0, 4), ("kept", 3, 4), ("kept", 5, 6), ("kept", 9, 12), ("kept", 0, 12),
                        ("kept", 2, 11)))

    def test_what_is_held_is_not_kept(self):
        track = Track(9, (("w", "write", 3, 7, (), 0, "stop"),))
        self.tells_all(track, (("kept", 0, 4), ("kept", 7, 9)), (("kept", 4, 5), ("kept", 3, 5), ("kept", 6, 9)))

    def test_a_trim_is_not_kept(self):
        track = Track(9, (("t", "trim", 3, 7, ((4, 5),), 1, "stop"),))
        self.tells_all(track, (("kept", 0, 4), ("kept", 6, 9)), (("kept", 4, 5), ("kept", 5, 6)))

    def test_flat(self):
        self.tells_all(TWO, (("flat", 6, 10), ("flat", 7, 9), ("flat", 0, 1), ("flat", 3, 4), ("flat", 5, 6),
                             ("flat", 11, 12), ("flat", 10, 11)),
                       (("flat", 5, 7), ("flat", 6, 11), ("flat", 0, 2), ("flat", 3, 5), ("flat", 10, 12),
                        ("flat", 9, 11)))

    def test_flat_where_the_first_of_the_ticks_is_itself(self):
        """The tick 6 of b has itself, the others have it, too."""
        self.tells(Track(12, (B,)), ("flat", 6, 7), True)
        held = Track(9, (("w", "write", 3, 7, (), 0, "stop"),))
        self.tells_all(held, (("flat", 3, 7), ("flat", 4, 7)), (("flat", 2, 4), ("flat", 3, 8)))

    def test_flat_from_within_a_run_that_changes(self):
        track = Track(9, (("w", "write", 0, 9, ((2, 6),), 0, "stop"),))
        self.tells_all(track, (("flat", 5, 9), ("flat", 0, 2), ("flat", 5, 6), ("flat", 4, 5)),
                       (("flat", 4, 9), ("flat", 4, 6), ("flat", 3, 5), ("flat", 1, 3)))

    def test_flat_again_is_not_flat(self):
        """The same form ahead of a touch and behind it, but not at it."""
        hold = ("w", "write", 0, 9, (), 0, "stop")
        touch = ("t", "touch", 3, 6, ((4, 5),), 0, "stop")
        self.tells_all(Track(9, (hold, touch)), (("flat", 0, 4), ("flat", 5, 9)), (("flat", 0, 9), ("flat", 3, 6)))

    def test_calm(self):
        track = Track(12, (("t", "trim", 0, 12, ((0, 3),), 3, "stop"),))
        self.tells_all(track, (("calm", (1, 4)), ("calm", (1, 3)), ("calm", (1, 1)), ("calm", (250001, 1000000))),
                       (("calm", (0, 1)), ("calm", (1, 5)), ("calm", (24, 97)), ("calm", (249999, 1000000))))
        self.tells_all(Track(12), tuple(("calm", limit) for limit in LIMITS))
        self.tells_all(TWO, (("calm", (1, 1)),), tuple(("calm", limit) for limit in LIMITS if limit != (1, 1)))

    def test_like(self):
        for track in (Track(12), Track(12, (A,)), TWO, Track(MOST)):
            self.tells(track, ("like", str(track)), True)
        self.tells_all(TWO, (), (("like", str(Track(12, (A,)))), ("like", str(Track(12, (B, A)))),
                                 ("like", "track 12")))

    def test_like_a_track_of_another_length(self):
        self.tells_all(Track(12), (("like", "track 12"),), (("like", "track 11"), ("like", "track 13"),
                                                            ("like", "track 1000000000000"), ("like", "track 1")))
        self.tells(TWO, ("like", str(Track(13, (A, B)))), False)
        self.tells(TWO, ("like", str(Track(11, (A, B)))), False)

    def test_like_a_track_with_other_passes(self):
        nothing = ("n", "latch", 0, 9, (), 4, "on")
        self.tells(TWO, ("like", str(Track(12, (nothing, A, B)))), True)
        self.tells(Track(12, (nothing,)), ("like", "track 12"), True)
        self.tells(Track(12), ("like", str(Track(12, (nothing,)))), True)
        self.tells(Track(12, (A,)), ("like", str(Track(12, (("z",) + A[1:],)))), False)

    def test_to_the_ends_of_the_track(self):
        one = ("a", "touch", 0, 12, ((0, 12),), 0, "stop")
        self.tells_all(Track(12, (one,)), (("heard", "a", 0, 12), ("heard", "a", 11, 12)),
                       (("kept", 0, 12), ("flat", 0, 12)))
        short = Track(1, (("a", "touch", 0, 1, ((0, 1),), 0, "stop"),))
        self.tells_all(short, (("heard", "a", 0, 1), ("flat", 0, 1), ("calm", (0, 1))), (("kept", 0, 1),))


class AgainstTheForms(HoldsCase):

    def compare(self, tracks, seed, many=8):
        dice = Dice(seed)
        seen = set()
        for track in tracks:
            others = [any_change(dice, track), any_change(dice, track), Track(track.length)]
            for _ in range(many):
                wish = any_wish(dice, track, others)
                wanted = plain_holds(track, wish)
                seen.add((wish[0], wanted))
                self.tells(track, wish, wanted)
        self.assertEqual(len(seen), 10)

    def test_short_tracks(self):
        self.compare(any_tracks(150, 401), 402)

    def test_several_passes(self):
        self.compare(any_tracks(50, 403, length=16, many=5, names=NAMES), 404)
        self.compare(any_tracks(40, 405, length=12, many=8, names=NAMES), 406)

    def test_each_stretch(self):
        for track in any_tracks(12, 407, length=7, many=3):
            for first in range(7):
                for end in range(first + 1, 8):
                    for wish in with_stretches(((first, end),)):
                        self.tells(track, wish, plain_holds(track, wish))

    def test_a_wish_that_is_no_stretch_of_a_shorter_track(self):
        dice = Dice(408)
        for track in any_tracks(20, 409):
            first, end = any_stretch(dice, track.length)
            for wish in with_stretches(((first, end),)):
                self.tells(track, wish, plain_holds(track, wish))
                short = Track(end - 1) if end > 1 else None
                if short:
                    self.refused_given(InvalidWish, wish, holds, short, wish)


class Great(HoldsCase):

    def test_great_stretches(self):
        half = 5 * 10 ** 11
        track = Track(MOST, (("a", "touch", 3, MOST, ((4, half),), 100, "stop"),
                             ("b", "latch", 0, MOST, ((MOST - 10 ** 6, MOST - 10 ** 5),), 0, "stop")))
        self.tells_all(track, (
            ("heard", "a", 4, half), ("heard", "b", MOST - 10 ** 6, MOST - 10 ** 5), ("kept", 0, 4),
            ("kept", half + 100, MOST - 10 ** 6), ("flat", MOST - 10 ** 5 - 1, MOST), ("calm", (1, 1)),
            ("like", str(track)), ("flat", half, half + 1)), (
            ("heard", "a", 3, half), ("heard", "a", 4, half + 1), ("heard", "b", MOST - 10 ** 6, MOST),
            ("kept", 0, 5), ("kept", half + 99, MOST), ("kept", 0, MOST), ("flat", MOST - 10 ** 5 - 2, MOST),
            ("flat", 4, half), ("flat", 0, MOST), ("calm", (99, 100)), ("like", "track 1000000000000"),
            ("like", "track 999999999999")))


class Refused(HoldsCase):

    def test_no_tracks(self):
        for value in NO_TRACKS:
            with self.subTest(repr(value)):
                self.refused_given(NotATrack, value, holds, value, ("calm", (1, 1)))
                self.refused_given(NotATrack, value, holds, wish=("calm", (1, 1)), track=value)

    def test_no_wishes(self):
        for value in NO_WISHES:
            for track in (Track(12), TWO):
                with self.subTest(repr(value)):
                    self.refused_given(InvalidWish, value, holds, track, value)
                    self.refused_given(InvalidWish, value, holds, wish=value, track=track)

    def test_each_wish(self):
        for wish in WISHES:
            for track in (Track(12), TWO, Track(12, (C, D))):
                if wish[0] != "like" or len(wish[1]) < 500:
                    self.tells(track, wish, holds(track, wish))
                    self.assertIsInstance(holds(track, wish), bool)

    def test_the_length_of_the_track_counts(self):
        for wish in with_stretches(BEYOND):
            self.refused_given(InvalidWish, wish, holds, Track(wish[-1] - 1 or 1), wish)
            self.assertIsInstance(holds(Track(wish[-1]), wish), bool)

    def test_the_order_of_the_errors(self):
        self.refused_given(NotATrack, None, holds, None, None)
        self.refused_given(NotATrack, "x", holds, wish=("kept", 5, 3), track="x")

    def test_base_classes_and_files(self):
        self.assertIsInstance(self.refused(InvalidWish, holds, Track(1), None), errors.BadValue)
        self.assertEqual(holds.__module__, mends_file.__name__)


if __name__ == "__main__":
    unittest.main()

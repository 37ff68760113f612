"""heard, old_heard, kept and changed_by."""

import unittest

from tests.plain import NAMES, Dice, any_tracks, plain_forms, stretches_of
from tests.samples import A, B, EIGHT, NO_NAMES, NO_TRACKS, Case
from touchpasses import errors, traces
from touchpasses.errors import NotATrack, UnknownName
from touchpasses.tracks import Track
from touchpasses.traces import changed_by, heard, kept, old_heard

FULL = (1, 1)
MOST = 10 ** 12


class TraceCase(Case):

    def tells(self, call, wanted, *args, **named_args):
        told = call(*args, **named_args)
        self.assertEqual((type(told), told), (tuple, wanted))

    def is_heard(self, track, name, wanted):
        self.tells(heard, wanted, track, name)
        self.tells(heard, wanted, name=name, track=track)

    def is_old_heard(self, track, wanted):
        self.tells(old_heard, wanted, track)
        self.tells(old_heard, wanted, track=track)

    def is_kept(self, track, wanted):
        self.tells(kept, wanted, track)
        self.tells(kept, wanted, track=track)

    def is_changed(self, track, name, wanted):
        self.tells(changed_by, wanted, track, name)
        self.tells(changed_by, wanted, name=name, track=track)


class WrittenOut(TraceCase):

    def test_no_pass(self):
        for length in (1, 2, 12, MOST):
            self.is_old_heard(Track(length), ((0, length),))
            self.is_kept(Track(length), ((0, length),))

    def test_a_pass_that_writes_nothing(self):
        for mode in ("latch", "touch", "trim"):
            track = Track(9, (("a", mode, 2, 7, (), 3, "stop"),))
            self.is_heard(track, "a", ())
            self.is_changed(track, "a", ())
            self.is_kept(track, ((0, 9),))

    def test_a_write_that_holds(self):
        track = Track(9, (("a", "write", 2, 7, (), 3, "stop"),))
        self.is_heard(track, "a", ())
        self.is_changed(track, "a", ((3, 7),))
        self.is_old_heard(track, ((0, 3), (7, 9)))
        self.is_kept(track, ((0, 3), (7, 9)))

    def test_a_tick_that_is_held_is_kept_itself(self):
        """The tick FROM stands in a piece that holds it, and is kept all the same."""
        under = ("u", "touch", 2, 4, ((2, 4),), 0, "stop")
        track = Track(9, (under, ("w", "write", 4, 8, (), 0, "stop")))
        self.is_kept(track, ((0, 2), (4, 5), (8, 9)))
        self.is_old_heard(track, ((0, 2), (4, 5), (8, 9)))
        self.is_heard(track, "u", ((2, 4),))

    def test_a_covered_pass(self):
        cover = ("c", "latch", 2, 9, ((2, 9),), 0, "stop")
        track = Track(12, (A, cover))
        self.is_heard(track, "a", ())
        self.is_changed(track, "a", ())
        self.is_heard(track, "c", ((2, 9),))
        self.is_old_heard(track, ((0, 2), (9, 12)))

    def test_a_tick_that_is_only_heard_elsewhere(self):
        """The tick 3 of the movement is covered where it was, but held further on."""
        low = ("l", "latch", 2, 10, ((2, 4),), 0, "stop")
        high = ("h", "touch", 3, 6, ((3, 6),), 0, "stop")
        self.is_heard(Track(12, (low, high)), "l", ((2, 4),))
        higher = ("g", "touch", 3, 10, ((3, 10),), 0, "stop")
        self.is_heard(Track(12, (low, higher)), "l", ((2, 3),))
        self.is_heard(Track(12, (low, ("g", "touch", 2, 4, ((2, 4),), 0, "stop"))), "l", ((3, 4),))

    def test_an_old_tick_that_is_only_heard_elsewhere(self):
        hold = ("w", "write", 4, 9, (), 0, "stop")
        cover = ("c", "touch", 3, 5, ((3, 5),), 0, "stop")
        track = Track(12, (hold, cover))
        self.is_old_heard(track, ((0, 3), (4, 5), (9, 12)))
        self.is_kept(track, ((0, 3), (9, 12)))
        self.is_changed(track, "w", ((5, 9),))
        self.is_changed(track, "c", ((3, 5),))

    def test_stretches_that_meet_are_one(self):
        track = Track(12, (("a", "latch", 2, 10, ((2, 3), (4, 7)), 0, "stop"),
                           ("b", "touch", 5, 6, ((5, 6),), 0, "stop")))
        self.is_heard(track, "a", ((2, 3), (4, 5), (6, 7)))
        mixed = Track(12, (("a", "touch", 2, 10, ((2, 9),), 0, "stop"), ("b", "touch", 3, 10, ((3, 4),), 4, "stop")))
        self.is_heard(mixed, "a", ((2, 3), (4, 9)))
        self.is_heard(mixed, "b", ((3, 4),))
        self.is_changed(mixed, "b", ((3, 8),))
        self.is_changed(mixed, "a", ((2, 3), (4, 9)))

    def test_glides(self):
        track = Track(12, (("a", "touch", 2, 10, ((2, 4),), 3, "stop"),))
        self.is_heard(track, "a", ((2, 4),))
        self.is_old_heard(track, ((0, 2), (4, 12)))
        self.is_kept(track, ((0, 2), (7, 12)))
        self.is_changed(track, "a", ((2, 7),))
        trim = track.changed(("a", "mode", "trim"))
        self.is_heard(trim, "a", ((2, 4),))
        self.is_old_heard(trim, ((0, 12),))
        self.is_kept(trim, ((0, 2), (7, 12)))
        self.is_changed(trim, "a", ((2, 7),))

    def test_eight_passes(self):
        track = Track(12, EIGHT)
        self.is_heard(track, "h", ((3, 5),))
        self.is_heard(track, "a", ((4, 5),))
        self.is_changed(track, "a", ((5, 8),))
        self.is_kept(track, ((0, 3), (8, 12)))

    def test_the_example_of_the_document(self):
        two = Track(12, (A, B))
        told = [heard(two, "a"), heard(two, "b"), old_heard(two), kept(two), changed_by(two, "a"), changed_by(two, "b")]
        self.assertEqual(told, [((3, 5),), ((6, 7),), ((0, 3), (5, 6), (10, 12)), ((0, 3), (10, 12)), ((3, 6),),
                                ((6, 10),)])


class AgainstForms(TraceCase):

    def looks(self, track):
        forms = plain_forms(track)
        with self.subTest(str(track)):
            for source in track.names + ("old",):
                ticks = [tick for told in forms for name, tick, _ in told if name == source]
                if source == "old":
                    self.is_old_heard(track, stretches_of(ticks))
                else:
                    self.is_heard(track, source, stretches_of(ticks))
                    without = plain_forms(track.without(source))
                    others = [t for t in range(track.length) if forms[t] != without[t]]
                    self.is_changed(track, source, stretches_of(others))
            self.is_kept(track, stretches_of([t for t in range(track.length) if forms[t] == (("old", t, FULL),)]))

    def test_short_tracks(self):
        for many in range(9):
            for track in any_tracks(60, 110 + many, many=many):
                self.looks(track)

    def test_writes(self):
        for track in any_tracks(200, 120, many=3, modes=("write", "write", "touch", "latch")):
            self.looks(track)

    def test_names_on_either_side_of_old(self):
        for track in any_tracks(100, 121, many=4, names=NAMES):
            self.looks(track)

    def test_long_glides(self):
        dice = Dice(122)
        for mode in ("touch", "trim"):
            for glide in (99, 100):
                one = ("a", mode, 2, 100, ((3, 5), (30, 40)), glide, dice.one_of(("stop", "on")))
                self.looks(Track(150, (one, ("b", "write", 50, 60, ((55, 56),), 0, "stop"))))


class Great(TraceCase):

    def test_a_great_track(self):
        half = MOST // 2
        a = ("a", "latch", 1, half, ((7, half - 2),), 0, "stop")
        b = ("b", "touch", half - 10, MOST, ((half - 5, half - 4), (MOST - 3, MOST - 1)), 100, "stop")
        track = Track(MOST, (a, b))
        self.is_heard(track, "a", ((7, half - 5), (half - 4, half - 2)))
        self.is_heard(track, "b", ((half - 5, half - 4), (MOST - 3, MOST - 1)))
        self.is_old_heard(track, ((0, 7), (half, MOST - 3), (MOST - 1, MOST)))
        self.is_kept(track, ((0, 7), (half + 96, MOST - 3)))
        self.is_changed(track, "a", ((7, half - 5), (half - 4, half)))
        self.is_changed(track, "b", ((half - 5, half + 96), (MOST - 3, MOST)))

    def test_first_and_last_ticks(self):
        track = Track(MOST, (("a", "touch", 0, 1, ((0, 1),), 0, "stop"),
                             ("b", "touch", MOST - 1, MOST, ((MOST - 1, MOST),), 100, "on")))
        self.is_heard(track, "a", ((0, 1),))
        self.is_heard(track, "b", ((MOST - 1, MOST),))
        self.is_kept(track, ((1, MOST - 1),))
        self.is_old_heard(track, ((1, MOST - 1),))
        self.is_changed(track, "a", ((0, 1),))
        self.is_changed(track, "b", ((MOST - 1, MOST),))

    def test_a_held_tick(self):
        track = Track(MOST, (("w", "write", 5, 6, (), 0, "on"), ("c", "touch", 0, 9, ((3, 9),), 0, "stop")))
        self.is_old_heard(track, ((0, 3), (5, 6)))
        self.is_kept(track, ((0, 3),))
        self.is_changed(track, "w", ((9, MOST),))
        self.is_changed(track, "c", ((3, 9),))


class Refused(TraceCase):

    def test_no_tracks(self):
        for value in NO_TRACKS:
            with self.subTest(repr(value)):
                for call in (heard, changed_by):
                    self.refused_given(NotATrack, value, call, value, "a")
                    self.refused_given(NotATrack, value, call, name="a", track=value)
                for call in (old_heard, kept):
                    self.refused_given(NotATrack, value, call, value)
                    self.refused_given(NotATrack, value, call, track=value)

    def test_unknown_names(self):
        for value in NO_NAMES + (Track(12, (A,)), 10 ** 39, UnknownName("a")):
            for track in (Track(12, (A, B)), Track(12)):
                with self.subTest(repr(value)):
                    for call in (heard, changed_by):
                        self.refused_given(UnknownName, value, call, track, value)
                        self.refused_given(UnknownName, value, call, name=value, track=track)
        self.refused_given(UnknownName, "a", heard, Track(12, (B,)), "a")

    def test_the_track_ahead_of_the_name(self):
        for call in (heard, changed_by):
            self.refused_given(NotATrack, None, call, None, None)
            self.refused_given(NotATrack, "x", call, "x", "old")
            self.refused_given(NotATrack, 1, call, name=[], track=1)
        self.assertIsInstance(self.refused(UnknownName, heard, Track(1), "a"), errors.BadName)

    def test_the_interface_stands_in_the_file(self):
        for call in (heard, old_heard, kept, changed_by):
            self.assertEqual(call.__module__, traces.__name__)


if __name__ == "__main__":
    unittest.main()

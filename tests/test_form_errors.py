"""What form, pieces, weight_of and number_at refuse, and in which order they look."""

import unittest

from tests.samples import A, B, NO_TRACKS, NO_TUPLES, Case, Everything
from touchpasses import errors, forms
from touchpasses.errors import InvalidKnown, InvalidTick, NotATrack, NotKnown
from touchpasses.forms import form, number_at, pieces, weight_of
from touchpasses.tracks import Track

NO_TICKS = (-1, -2, -10 ** 12, 12, 13, 10 ** 12, 10 ** 39, True, False, None, "", "0", "5", b"5", (), (5,), [5], [],
            {5: 5}, {}, object(), Everything(), ("old", 5), A)
GOOD = (("a", 4, 8), ("old", 5, -4))
# None of these is a triple of a string, an integer from 0 on and an integer.
NO_KNOWN = (None, True, 0, 7, "", "a48", "abc", b"abc", (), ("a",), ("a", 4), ("a", 4, 8, 1), ("a", 4, 8, None),
            (("a", 4, 8),), ["a", 4, 8], {"a": 1, 4: 2, 8: 3}, object(),
            (None, 4, 8), (True, 4, 8), (0, 4, 8), (b"a", 4, 8), (("a",), 4, 8), (["a"], 4, 8), ({"a": 1}, 4, 8),
            ((), 4, 8), (A, 4, 8), (object(), 4, 8),
            (Everything(), 4, 8), ("a", Everything(), 8), ("a", 4, Everything()),
            ("a", None, 8), ("a", True, 8), ("a", False, 8), ("a", "4", 8), ("a", b"4", 8), ("a", (4,), 8),
            ("a", [4], 8), ("a", {4: 4}, 8), ("a", -1, 8), ("a", -10 ** 12, 8), ("old", -1, 8), ("a", object(), 8),
            ("a", 4, None), ("a", 4, True), ("a", 4, False), ("a", 4, "8"), ("a", 4, b"8"), ("a", 4, (8,)),
            ("a", 4, [8]), ("a", 4, {8: 8}), ("a", 4, (8, 1)), ("a", 4, object()), (4, "a", 8), (8, 4, "a"))


class Refused(Case):

    def test_no_tracks(self):
        for value in NO_TRACKS:
            with self.subTest(repr(value)):
                self.refused_given(NotATrack, value, form, value, 0)
                self.refused_given(NotATrack, value, form, tick=0, track=value)
                self.refused_given(NotATrack, value, pieces, value)
                self.refused_given(NotATrack, value, pieces, track=value)
                self.refused_given(NotATrack, value, weight_of, value, 0, "old")
                self.refused_given(NotATrack, value, weight_of, track=value, tick=0, source="old")
                self.refused_given(NotATrack, value, number_at, value, 0, ())
                self.refused_given(NotATrack, value, number_at, known=(), tick=0, track=value)

    def test_no_ticks(self):
        for value in NO_TICKS:
            for track in (Track(12), Track(12, (A, B))):
                with self.subTest(repr(value)):
                    self.refused_given(InvalidTick, value, form, track, value)
                    self.refused_given(InvalidTick, value, form, track=track, tick=value)
                    self.refused_given(InvalidTick, value, weight_of, track, value, "old")
                    self.refused_given(InvalidTick, value, weight_of, source="old", track=track, tick=value)
                    self.refused_given(InvalidTick, value, number_at, track, value, GOOD)
                    self.refused_given(InvalidTick, value, number_at, known=GOOD, track=track, tick=value)

    def test_the_length_of_the_track_counts(self):
        for length in (1, 2, 12, 10 ** 12):
            track = Track(length)
            self.assertEqual(form(track, length - 1), (("old", length - 1, (1, 1)),))
            self.assertEqual(form(track, 0), (("old", 0, (1, 1)),))
            self.refused_given(InvalidTick, length, form, track, length)
            self.refused_given(InvalidTick, length, weight_of, track, length, "old")
            self.refused_given(InvalidTick, length, number_at, track, length, ())
            self.refused_given(InvalidTick, -1, form, track, -1)

    def test_no_tuple_of_known_numbers(self):
        for known in NO_TUPLES + (list(GOOD), dict.fromkeys(GOOD), set(GOOD), Track(12), "a48"):
            with self.subTest(repr(known)):
                self.refused_index(InvalidKnown, None, number_at, Track(12, (A,)), 5, known)
                self.refused_index(InvalidKnown, None, number_at, known=known, tick=5, track=Track(12, (A,)))

    def test_each_wrong_known_number(self):
        track = Track(12, (A,))
        for wrong in NO_KNOWN:
            with self.subTest(repr(wrong)):
                self.refused_index(InvalidKnown, 0, number_at, track, 5, (wrong,))
                self.refused_index(InvalidKnown, 0, number_at, track, 5, (wrong,) + GOOD)
                self.refused_index(InvalidKnown, 1, number_at, track, 5, (GOOD[0], wrong, GOOD[1]))
                self.refused_index(InvalidKnown, 2, number_at, track=track, tick=5, known=GOOD + (wrong, wrong))

    def test_a_source_and_tick_that_came_ahead(self):
        track = Track(12, (A,))
        for again in (("a", 4, 8), ("a", 4, 9)):
            self.refused_index(InvalidKnown, 2, number_at, track, 5, GOOD + (again,))
            self.refused_index(InvalidKnown, 1, number_at, track, 5, (GOOD[0], again, GOOD[1]))
            self.refused_index(InvalidKnown, 1, number_at, track, 5, (GOOD[0], again, None))
            self.refused_index(InvalidKnown, 1, number_at, track, 5, (GOOD[0], None, again))
        self.refused_index(InvalidKnown, 1, number_at, track, 5, (("x", 99, 1), ("x", 99, 1)) + GOOD)
        self.refused_index(InvalidKnown, 3, number_at, track, 5, GOOD + (("x", 0, 1), ("old", 5, 1)))
        self.assertEqual(number_at(track, 5, GOOD + (("a", 5, 8), ("b", 4, 8), ("old", 4, 0))), (5, 1))

    def test_known_numbers_that_are_one_triple(self):
        self.refused_index(InvalidKnown, 0, number_at, Track(12), 0, ("old", 0, 1))

    def test_the_order_of_the_errors(self):
        track = Track(12, (A,))
        for call in (form, lambda track, tick: weight_of(track, tick, None),
                     lambda track, tick: number_at(track, tick, None)):
            self.refused_given(NotATrack, None, call, None, -1)
            self.refused_given(NotATrack, "x", call, "x", None)
            self.refused_given(InvalidTick, 12, call, track, 12)
        self.refused_given(NotATrack, 5, number_at, 5, "x", ("wrong",))
        self.refused_given(InvalidTick, "x", number_at, track, "x", ("wrong",))
        self.refused_given(InvalidTick, True, number_at, known=None, tick=True, track=track)
        self.refused_index(InvalidKnown, 0, number_at, track, 5, (None,))
        self.refused_index(InvalidKnown, 1, number_at, track, 5, (("old", 5, 1), ("old", 5, 1)))
        self.refused_index(InvalidKnown, None, number_at, track, 5, None)
        self.assertEqual(self.refused(NotKnown, number_at, track, 5, ()).given, ("a", 4))

    def test_nothing_is_changed(self):
        known = [["a", 4, 8]]
        self.refused_index(InvalidKnown, None, number_at, Track(12, (A,)), 5, known)
        self.refused_index(InvalidKnown, 0, number_at, Track(12, (A,)), 5, tuple(known))
        self.assertEqual(known, [["a", 4, 8]])

    def test_base_classes(self):
        self.assertIsInstance(self.refused(InvalidKnown, number_at, Track(1), 0, None), errors.BadValue)
        self.assertIsInstance(self.refused(NotKnown, number_at, Track(1), 0, ()), errors.BadName)

    def test_the_interface_stands_in_the_file(self):
        for call in (form, pieces, weight_of, number_at):
            self.assertEqual(call.__module__, forms.__name__)


if __name__ == "__main__":
    unittest.main()

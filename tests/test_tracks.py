"""Tracks that are right, and tracks that are refused."""

import unittest

from tests.samples import A, B, C, D, EIGHT, NO_NAMES, NO_TUPLES, RIGHT, WRONG, Case, a_pass, named
from touchpasses import errors
from touchpasses.errors import BadName, InvalidLength, InvalidPass, InvalidPasses, UnknownName
from touchpasses.tracks import Track

SEVEN = EIGHT[1:]
WRONG_LENGTHS = (0, -1, -10 ** 12, 10 ** 12 + 1, 10 ** 13, True, False, None, "", "12", b"12", (), (12,), [12],
                 {12: 12}, object())


class RightTracks(Case):

    def shows(self, track, length, passes):
        names = tuple(one[0] for one in passes)
        self.assertEqual((track.length, track.passes, track.names), (length, passes, names))
        self.assertEqual([type(track.length), type(track.passes), type(track.names)], [int, tuple, tuple])
        self.assertEqual(len(track), len(passes))
        self.assertEqual([track[name] for name in names], list(passes))
        self.assertEqual([name in track for name in names], [True] * len(passes))
        self.assertIs(bool(track), True)

    def test_by_position_and_by_name(self):
        for passes in ((), (A,), (A, B), (B, A), (A, B, C, D)):
            with self.subTest(passes):
                self.shows(Track(12, passes), 12, passes)
                self.shows(Track(length=12, passes=passes), 12, passes)
                self.shows(Track(passes=passes, length=12), 12, passes)
                self.shows(Track(12, passes=passes), 12, passes)

    def test_no_passes_said(self):
        self.shows(Track(12), 12, ())
        self.shows(Track(length=12), 12, ())

    def test_lengths(self):
        for length in (1, 2, 3, 8, 10 ** 12 - 1, 10 ** 12):
            with self.subTest(length):
                self.shows(Track(length), length, ())
                whole = a_pass(from_=0, to=length, touches=((0, length),))
                self.shows(Track(length, (whole,)), length, (whole,))
                last = a_pass(from_=length - 1, to=length, touches=((length - 1, length),))
                self.shows(Track(length, (last,)), length, (last,))

    def test_each_right_pass(self):
        for one in RIGHT:
            with self.subTest(one):
                self.shows(Track(12, (one,)), 12, (one,))
                first = a_pass(name="first")
                self.shows(Track(12, (first, one)), 12, (first, one))
                self.shows(Track(12, (one, first)), 12, (one, first))

    def test_up_to_eight_passes(self):
        for many in range(9):
            with self.subTest(many):
                self.shows(Track(12, EIGHT[:many]), 12, EIGHT[:many])

    def test_what_was_passed_is_returned(self):
        passes = (A, B)
        track = Track(12, passes)
        self.assertEqual(track.passes, (A, B))
        self.assertEqual(track["b"], B)
        self.assertEqual(passes, (A, B))

    def test_the_interface_stands_in_the_class(self):
        self.assertEqual(Track.__module__, "touchpasses.tracks")
        for name in ("read", "length", "passes", "names", "put", "without", "moved", "changed",
                     "__len__", "__getitem__", "__contains__", "__str__", "__eq__"):
            with self.subTest(name):
                self.assertIn(name, vars(Track))


class Equality(Case):

    def is_equal(self, one, other, wanted):
        self.assertIs(one == other, wanted)
        self.assertIs(other == one, wanted)
        self.assertIs(one != other, not wanted)
        self.assertIs(other != one, not wanted)

    def test_equal_tracks(self):
        for passes in ((), (A,), (A, B), EIGHT):
            with self.subTest(passes):
                track = Track(12, passes)
                self.is_equal(track, track, True)
                self.is_equal(track, Track(12, tuple(list(passes))), True)
                self.is_equal(track, Track.read(str(track)), True)

    def test_unlike_tracks(self):
        tracks = [Track(12), Track(13), Track(12, (A,)), Track(13, (A,)), Track(12, (B,)), Track(12, (A, B)),
                  Track(12, (B, A)), Track(12, (A, B, C)), Track(12, EIGHT), Track(12, SEVEN)]
        tracks += [Track(12, (one,)) for one in RIGHT if one not in (A, B)]
        for at, one in enumerate(tracks):
            for other in tracks[at + 1:]:
                if str(one) != str(other):
                    with self.subTest(one=str(one), other=str(other)):
                        self.is_equal(one, other, False)

    def test_each_part_counts(self):
        for part, value in (("name", "c"), ("mode", "trim"), ("from", 1), ("to", 9), ("touches", ((3, 6),)),
                            ("glide", 4), ("tail", "on")):
            with self.subTest(part):
                self.is_equal(Track(12, (A,)), Track(12, (a_pass(**{part: value}),)), False)

    def test_tracks_that_do_the_same_may_be_unequal(self):
        self.is_equal(Track(12), Track(12, (a_pass(mode="touch", touches=()),)), False)

    def test_values_of_other_kinds(self):
        track = Track(12, (A,))
        for other in (None, True, 1, 12, "", str(track), A, (A,), (12, (A,)), [12, (A,)], {}, b"a", object(),
                      InvalidLength(12), Track):
            with self.subTest(repr(other)):
                self.is_equal(track, other, False)
                self.is_equal(Track(12), other, False)


class Names(Case):

    def test_in(self):
        track = Track(12, (A, B))
        self.assertIs("a" in track, True)
        self.assertIs("b" in track, True)
        self.assertIs("a" not in track, False)
        self.assertIs("a" in Track(12), False)
        self.assertIs("a" in Track(12, (B,)), False)

    def test_no_name_is_in(self):
        for value in NO_NAMES:
            with self.subTest(repr(value)):
                self.assertIs(value in Track(12, (A, B)), False)
                self.assertIs(value in Track(12), False)
                self.assertIs(value not in Track(12, (A, B)), True)

    def test_no_name_leads_to_a_pass(self):
        for value in NO_NAMES:
            with self.subTest(repr(value)):
                for track in (Track(12, (A, B)), Track(12)):
                    self.refused_given(UnknownName, value, lambda: track[value])
                    self.assertRaises(BadName, lambda: track[value])

    def test_each_pass_under_its_name(self):
        track = Track(12, EIGHT)
        self.assertEqual([track[one[0]] for one in EIGHT], list(EIGHT))
        self.assertEqual(track.names, ("a", "b", "c", "d", "e", "f", "g", "h"))
        self.assertEqual(Track(12, EIGHT[::-1]).names, ("h", "g", "f", "e", "d", "c", "b", "a"))


class RefusedTracks(Case):

    def test_lengths(self):
        for length in WRONG_LENGTHS:
            with self.subTest(repr(length)):
                self.refused_given(InvalidLength, length, Track, length)
                self.refused_given(InvalidLength, length, Track, length, (A,))
                self.refused_given(InvalidLength, length, Track, length=length, passes=())

    def test_the_length_ahead_of_the_passes(self):
        for passes in (None, [A], (None,), EIGHT + named("i"), (A, A)):
            with self.subTest(repr(passes)):
                self.refused_given(InvalidLength, 0, Track, 0, passes)
                self.refused_given(InvalidLength, None, Track, passes=passes, length=None)

    def test_no_tuple_of_passes(self):
        for passes in NO_TUPLES + ([A], [A, B], {"a": A}, {A: 1}, str(Track(12, (A,))), Track(12, (A,))):
            with self.subTest(repr(passes)):
                self.refused_index(InvalidPasses, None, Track, 12, passes)
                self.refused_index(InvalidPasses, None, Track, 12, passes=passes)

    def test_each_wrong_pass(self):
        others = named("p", "q", "r", "s", "t", "u", "v")
        for wrong in WRONG:
            with self.subTest(repr(wrong)):
                self.refused_index(InvalidPasses, 0, Track, 12, (wrong,))
                self.refused_index(InvalidPasses, 0, Track, 12, (wrong, B, C))
                self.refused_index(InvalidPasses, 1, Track, 12, (B, wrong, C))
                self.refused_index(InvalidPasses, 7, Track, 12, others + (wrong,))

    def test_the_first_wrong_one_counts(self):
        self.refused_index(InvalidPasses, 1, Track, 12, (A, None, None))
        self.refused_index(InvalidPasses, 1, Track, 12, (A, A, None))
        self.refused_index(InvalidPasses, 1, Track, 12, (A, None, A))
        self.refused_index(InvalidPasses, 0, Track, 12, (list(A), A, B))

    def test_a_row_that_is_one_pass(self):
        self.refused_index(InvalidPasses, 0, Track, 12, A)

    def test_a_name_twice(self):
        again = a_pass(mode="trim", touches=())
        self.refused_index(InvalidPasses, 1, Track, 12, (A, A))
        self.refused_index(InvalidPasses, 1, Track, 12, (A, again))
        self.refused_index(InvalidPasses, 2, Track, 12, (A, B, again))
        self.refused_index(InvalidPasses, 2, Track, 12, (B, A, again, B))
        self.refused_index(InvalidPasses, 7, Track, 12, SEVEN + named("h"))

    def test_a_ninth_pass(self):
        self.refused_index(InvalidPasses, 8, Track, 12, EIGHT + named("i"))
        self.refused_index(InvalidPasses, 8, Track, 12, EIGHT + named("i", "j", "k"))
        self.refused_index(InvalidPasses, 8, Track, 12, EIGHT + (None,))
        self.refused_index(InvalidPasses, 8, Track, 12, EIGHT + named("a"))
        self.refused_index(InvalidPasses, 3, Track, 12, EIGHT[:3] + (None,) + EIGHT[3:])
        self.refused_index(InvalidPasses, 7, Track, 12, SEVEN + (None, None))
        self.refused_index(InvalidPasses, 1, Track, 12, EIGHT[:1] + EIGHT)

    def test_seven_touches(self):
        six = tuple((k, k + 1) for k in range(0, 12, 2))
        seven = six + ((12, 13),)
        Track(20, (a_pass(from_=0, to=20, touches=six),))
        self.refused_index(InvalidPasses, 0, Track, 20, (a_pass(from_=0, to=20, touches=seven),))

    def test_the_length_bounds_the_passes(self):
        one = a_pass(from_=2, to=8)
        Track(8, (one,))
        self.refused_index(InvalidPasses, 0, Track, 7, (one,))
        self.refused_index(InvalidPasses, 0, Track, 1, (one,))
        most = 10 ** 12
        Track(most, (a_pass(from_=most - 1, to=most, touches=()),))
        self.refused_index(InvalidPasses, 0, Track, most, (a_pass(from_=most, to=most + 1, touches=()),))
        self.refused_index(InvalidPasses, 0, Track, most, (a_pass(from_=0, to=most + 1),))

    def test_wrong_elements_do_not_change(self):
        row = [list(A)]
        self.refused_index(InvalidPasses, None, Track, 12, row)
        self.refused_index(InvalidPasses, 0, Track, 12, tuple(row))
        self.assertEqual(row, [list(A)])

    def test_errors_are_bad_values(self):
        self.assertRaises(errors.BadValue, Track, 0)
        self.assertRaises(ValueError, Track, 12, None)
        self.assertNotIsInstance(self.refused(InvalidPasses, Track, 12, None), InvalidPass)


if __name__ == "__main__":
    unittest.main()

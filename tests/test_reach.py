"""reach: how far the curve can go within bounds."""

import unittest
from fractions import Fraction

from tests.plain import NAMES, Dice, any_tracks, plain_forms
from tests.plain_wishes import ends_in, pair, plain_form_of, plain_reach
from tests.samples import A, B, C, D, EIGHT, NO_TRACKS, NO_TUPLES, Case, Everything
from tests.test_great import edges, great_track
from touchpasses import errors, jumps
from touchpasses.errors import InvalidBounds, NotATrack
from touchpasses.jumps import reach
from touchpasses.tracks import Track

MOST = 10 ** 12
HUGE = 10 ** 39
RIGHT = (("a", -10, 20), ("b", 3, 3), ("old", 0, 5))


def any_bounds(dice, track, far=30):
    def one(source):
        low = dice.upto(2 * far) - far
        return source, low, low + dice.one_of((0, 0, 1, dice.upto(far)))
    return tuple(one(source) for source in sorted((*track.names, "old")))


class ReachCase(Case):

    def reaches(self, track, bounds, wanted):
        for told in (reach(track, bounds), reach(bounds=bounds, track=track)):
            self.assertEqual((type(told), told), (tuple, wanted), f"{track} within {bounds}")


class WrittenOut(ReachCase):

    def test_the_example(self):
        self.reaches(Track(12, (A,)), (("a", -10, 20), ("old", 0, 5)), ((-10, 1), 3, (20, 1), 3))

    def test_no_pass(self):
        for length in (1, 12, MOST):
            self.reaches(Track(length), (("old", -3, 7),), ((-3, 1), 0, (7, 1), 0))
            self.reaches(Track(length), (("old", 4, 4),), ((4, 1), 0, (4, 1), 0))

    def test_the_old_curve_goes_furthest(self):
        self.reaches(Track(12, (A,)), (("a", 0, 1), ("old", -7, 9)), ((-7, 1), 0, (9, 1), 0))

    def test_each_side_by_itself(self):
        self.reaches(Track(12, (A,)), (("a", 0, 10), ("old", -7, 9)), ((-7, 1), 0, (10, 1), 3))
        self.reaches(Track(12, (A,)), (("a", -8, 9), ("old", -7, 9)), ((-8, 1), 3, (9, 1), 0))

    def test_no_tick_is_the_old_curve_alone(self):
        """The movement alone, and then 3/4, 1/2, 1/4 of it with the rest of the old curve."""
        four, three = (("g", "touch", 0, length, ((0, 1),), 3, "stop") for length in (4, 3))
        self.reaches(Track(4, (four,)), (("g", 0, 4), ("old", 8, 12)), ((0, 1), 0, (10, 1), 3))
        self.reaches(Track(3, (three,)), (("g", 0, 4), ("old", 9, 13)), ((0, 1), 0, (17, 2), 2))

    def test_a_trim_is_added(self):
        track = Track(12, (("c", "trim", 0, 9, ((3, 5),), 1, "stop"),))
        self.reaches(track, (("c", -2, 5), ("old", 10, 20)), ((8, 1), 3, (25, 1), 3))
        self.reaches(track, (("c", 1, 5), ("old", 10, 20)), ((10, 1), 0, (25, 1), 3))
        self.reaches(track, (("c", -5, -1), ("old", 10, 20)), ((5, 1), 3, (20, 1), 0))

    def test_trims_add_up(self):
        row = tuple((name, "trim", k, 12, ((k, k + 3),), 1, "stop") for k, name in enumerate("abc"))
        bounds = (("a", -1, 1), ("b", -1, 1), ("c", -1, 1), ("old", 0, 0))
        self.reaches(Track(12, row), bounds, ((-3, 1), 2, (3, 1), 2))

    def test_numbers_that_are_no_integers(self):
        """At the tick 2 there are 6/7 of a, 1/7 of the old curve, and b."""
        track = Track(6, (("a", "touch", 1, 3, ((1, 2),), 6, "stop"), ("b", "trim", 2, 3, ((2, 3),), 0, "stop")))
        self.reaches(track, (("a", 0, 7), ("b", 10, 10), ("old", 0, 1)), ((0, 1), 0, (113, 7), 2))
        self.reaches(track, (("a", -7, 0), ("b", -3, 0), ("old", -1, 0)), ((-64, 7), 2, (0, 1), 0))

    def test_great_numbers(self):
        track = Track(12, (A,))
        self.reaches(track, (("a", -HUGE, HUGE - 1), ("old", -5, HUGE)), ((-HUGE, 1), 3, (HUGE, 1), 0))
        self.reaches(track, (("a", 10 ** 18 + 1, 10 ** 18 + 3), ("old", 10 ** 18 + 2, 10 ** 18 + 2)),
                     ((10 ** 18 + 1, 1), 3, (10 ** 18 + 3, 1), 3))
        self.reaches(track, (("a", 3, 3), ("old", -10 ** 19, -10 ** 19)), ((-10 ** 19, 1), 0, (3, 1), 3))

    def test_the_least_tick_of_equal_ones(self):
        track = Track(12, (("a", "touch", 2, 9, ((4, 5), (7, 8)), 0, "stop"),))
        self.reaches(track, (("a", 9, 9), ("old", 3, 5)), ((3, 1), 0, (9, 1), 4))
        self.reaches(track, (("a", 1, 1), ("old", 3, 5)), ((1, 1), 4, (5, 1), 0))
        self.reaches(track, (("a", 4, 4), ("old", 4, 4)), ((4, 1), 0, (4, 1), 0))

    def test_a_movement_that_is_not_heard_does_not_count(self):
        track = Track(12, (("a", "latch", 2, 9, (), 0, "stop"),))
        self.reaches(track, (("a", -99, 99), ("old", 3, 5)), ((3, 1), 0, (5, 1), 0))

    def test_sources_on_either_side_of_old(self):
        row = tuple((name, "touch", k, k + 1, ((k, k + 1),), 0, "stop") for k, name in enumerate(("z", "ol", "olda")))
        bounds = (("ol", 1, 2), ("old", 0, 0), ("olda", 3, 4), ("z", -5, 5))
        self.reaches(Track(4, row), bounds, ((-5, 1), 0, (5, 1), 0))


class AgainstTheForms(ReachCase):

    def compare(self, tracks, seed, far):
        dice = Dice(seed)
        for track in tracks:
            forms = plain_forms(track)
            for _ in range(3):
                bounds = any_bounds(dice, track, far)
                self.reaches(track, bounds, plain_reach(forms, bounds))

    def test_short_tracks(self):
        self.compare(any_tracks(120, 311), 312, 30)
        self.compare(any_tracks(60, 313), 314, 2)

    def test_several_passes(self):
        self.compare(any_tracks(50, 315, length=16, many=5, names=NAMES), 316, 30)
        self.compare(any_tracks(20, 317, length=14, many=8, names=NAMES), 318, 4)

    def test_trims(self):
        self.compare(any_tracks(60, 319, many=3, modes=("trim",)), 320, 5)

    def test_great_numbers(self):
        self.compare(any_tracks(30, 321), 322, 10 ** 30)


class Great(ReachCase):

    def test_at_and_beside_the_ends(self):
        dice = Dice(331)
        for many in (1, 2, 4, 8):
            for _ in range(6):
                track = great_track(dice, many)
                bounds = any_bounds(dice, track)
                least, low_at, most, high_at = reach(track, bounds)
                self.assertEqual((pair(Fraction(*least)), pair(Fraction(*most))), (least, most))
                self.assertEqual(ends_in(plain_form_of(track, low_at), bounds)[0], Fraction(*least))
                self.assertEqual(ends_in(plain_form_of(track, high_at), bounds)[1], Fraction(*most))
                for tick in edges(track):
                    low, high = ends_in(plain_form_of(track, tick), bounds)
                    self.assertTrue(Fraction(*least) < low if tick < low_at else Fraction(*least) <= low)
                    self.assertTrue(high < Fraction(*most) if tick < high_at else high <= Fraction(*most))

    def test_the_last_tick(self):
        track = Track(MOST, (("a", "latch", MOST - 2, MOST, ((MOST - 1, MOST),), 0, "stop"),))
        self.reaches(track, (("a", -1, 9), ("old", 0, 8)), ((-1, 1), MOST - 1, (9, 1), MOST - 1))


class Refused(ReachCase):

    def wrong(self, index, bounds, track=Track(12, (A, B))):
        with self.subTest(repr(bounds)):
            self.refused_index(InvalidBounds, index, reach, track, bounds)
            self.refused_index(InvalidBounds, index, reach, bounds=bounds, track=track)

    def test_right_ones(self):
        self.reaches(Track(12, (A, B)), RIGHT, plain_reach(plain_forms(Track(12, (A, B))), RIGHT))
        self.reaches(Track(12, (B, A)), RIGHT, plain_reach(plain_forms(Track(12, (B, A))), RIGHT))

    def test_no_tracks(self):
        for value in NO_TRACKS:
            with self.subTest(repr(value)):
                self.refused_given(NotATrack, value, reach, value, RIGHT)
                self.refused_given(NotATrack, value, reach, bounds=RIGHT, track=value)

    def test_no_tuple(self):
        for value in NO_TUPLES + (list(RIGHT), [], set(RIGHT), dict.fromkeys(RIGHT), "old", Track(12)):
            self.wrong(None, value)

    def test_each_wrong_element(self):
        for wrong in NO_TUPLES + (
                (), ("SOURCE",), ("SOURCE", 1), ("SOURCE", 1, 2, 3), ("SOURCE", (1, 2)), ["SOURCE", 1, 2],
                (("SOURCE", 1, 2),), ("SOURCE", 2, 1), ("SOURCE", 0, -1), ("SOURCE", HUGE, HUGE - 1),
                ("SOURCE", True, 2), ("SOURCE", 0, True), ("SOURCE", False, 2), ("SOURCE", True, True),
                ("SOURCE", None, 2), ("SOURCE", 1, None), ("SOURCE", "1", 2), ("SOURCE", 1, "2"), ("SOURCE", (1,), 2),
                ("SOURCE", (1, 1), (2, 1)), ("SOURCE", [1], 2), ("SOURCE", 1, {}), ("SOURCE", Everything(), 2),
                ("SOURCE", 1, Everything()), ("SOURCE", b"1", 2), (Everything(), 1, 2), (None, 1, 2), (True, 1, 2),
                (b"a", 1, 2), (["a"], 1, 2), (("a",), 1, 2), ({}, 1, 2), (0, 1, 2), ("", 1, 2), ("x", 1, 2),
                ("A", 1, 2), ("aa", 1, 2), ("a ", 1, 2), (1, 2, "SOURCE"), (object(), 1, 2)):
            for at in range(3):
                bounds = list(RIGHT)
                one = wrong
                if isinstance(wrong, (tuple, list)):
                    kind = type(wrong)
                    one = kind(RIGHT[at][0] if isinstance(part, str) and part == "SOURCE" else part for part in wrong)
                bounds[at] = one
                self.wrong(at, tuple(bounds))
                self.wrong(at, tuple(bounds[:at + 1]))
                self.wrong(at, tuple(bounds[:at + 1]) + (None,) * 4)

    def test_another_source_or_order(self):
        a, b, old = RIGHT
        for index, bounds in ((0, (b, a, old)), (0, (old, a, b)), (1, (a, old, b)), (0, (b, old)), (1, (a, old)),
                              (1, (a, a, b, old)), (2, (a, b, b, old)), (2, (a, b, ("oldd", 1, 2))),
                              (1, (a, ("c", 1, 2), old)), (0, (("old", 1, 2),)), (0, (("c", 1, 2), a, b, old))):
            self.wrong(index, bounds)

    def test_one_too_many(self):
        for more in (("old", 0, 5), ("z", 0, 5), None, ("p", 1, 2), ()):
            self.wrong(3, RIGHT + (more,))
            self.wrong(3, RIGHT + (more, more))
        self.wrong(1, (("old", 1, 2), ("old", 1, 2)), Track(3))

    def test_too_short_and_right_so_far(self):
        for many in range(3):
            self.wrong(None, RIGHT[:many])
        self.wrong(None, (), Track(3))

    def test_eight_passes(self):
        track = Track(12, EIGHT)
        bounds = tuple((name, 0, k) for k, name in enumerate((*"abcdefgh", "old")))
        self.reaches(track, bounds, plain_reach(plain_forms(track), bounds))
        self.wrong(None, bounds[:8], track)
        self.wrong(9, bounds + bounds, track)

    def test_a_tuple_that_is_one_triple(self):
        self.wrong(0, ("old", 0, 5), Track(3))

    def test_the_order_of_the_errors(self):
        self.refused_given(NotATrack, None, reach, None, None)
        self.refused_given(NotATrack, (), reach, bounds=(), track=())

    def test_nothing_is_changed(self):
        bounds = [["a", 0, 1], ["old", 0, 1]]
        self.refused_index(InvalidBounds, None, reach, Track(12, (A,)), bounds)
        self.refused_index(InvalidBounds, 0, reach, Track(12, (A,)), tuple(bounds))
        self.assertEqual(bounds, [["a", 0, 1], ["old", 0, 1]])

    def test_base_classes_and_files(self):
        self.assertIsInstance(self.refused(InvalidBounds, reach, Track(1), None), errors.BadValue)
        self.assertEqual(reach.__module__, jumps.__name__)

    def test_other_tracks_have_other_sources(self):
        bounds = (("c", 1, 2), ("d", 1, 2), ("old", 1, 2))
        track = Track(12, (C, D))
        self.reaches(track, bounds, plain_reach(plain_forms(track), bounds))
        self.wrong(0, bounds)


if __name__ == "__main__":
    unittest.main()

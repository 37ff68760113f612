"""sudden and steepest."""

import unittest
from fractions import Fraction

from tests.plain import MODES, NAMES, Dice, any_tracks, each_pass, plain_forms
from tests.plain_wishes import pair, plain_form_of, plain_steepest, plain_steps, plain_sudden, step_between
from tests.samples import A, B, C, D, NO_TRACKS, Case
from tests.test_great import edges, great_track
from tests.wish_samples import LIMITS, NO_LIMITS
from touchpasses import errors, jumps
from touchpasses.errors import InvalidLimit, NotATrack
from touchpasses.jumps import steepest, sudden
from touchpasses.tracks import Track

MOST = 10 ** 12
ALL, NONE = (0, 1), (1, 1)


def limits_beside(forms):
    """Limits that are just the differences that there are, and fractions beside them."""
    found = {Fraction(0), Fraction(1)}
    for step in plain_steps(forms).values():
        found |= {step, max(Fraction(0), step - Fraction(1, 10 ** 9)), min(Fraction(1), step + Fraction(1, 10 ** 9))}
    return [pair(limit) for limit in sorted(found)]


class JumpCase(Case):

    def is_sudden(self, track, limit, wanted):
        for told in (sudden(track, limit), sudden(limit=limit, track=track)):
            self.assertEqual((type(told), told), (tuple, wanted), f"{track} for {limit}")

    def is_steepest(self, track, wanted):
        for told in (steepest(track), steepest(track=track)):
            self.assertEqual((type(told), told), (type(wanted), wanted), str(track))

    def tells_as_forms(self, track):
        forms = plain_forms(track)
        for limit in limits_beside(forms):
            self.is_sudden(track, limit, plain_sudden(forms, limit))
        self.is_steepest(track, plain_steepest(forms))


class WrittenOut(JumpCase):

    def test_the_example(self):
        two = Track(12, (A, B))
        self.is_sudden(two, (1, 2), (3, 6, 10))
        self.is_sudden(two, (1, 1), ())
        self.is_steepest(two, ((1, 1), 3))
        self.is_steepest(Track(5), None)

    def test_no_pass(self):
        for length in (1, 2, 12, MOST):
            for limit in LIMITS:
                self.is_sudden(Track(length), limit, ())
            self.is_steepest(Track(length), None)

    def test_weights_that_change_in_a_glide(self):
        track = Track(12, (A,))
        self.is_sudden(track, ALL, (3, 5, 6, 7, 8))
        self.is_sudden(track, (24999, 100000), (3, 5, 6, 7, 8))
        self.is_sudden(track, (1, 4), (3,))
        self.is_sudden(track, (25001, 100000), (3,))
        self.is_sudden(track, (99, 100), (3,))
        self.is_sudden(track, NONE, ())
        self.is_steepest(track, ((1, 1), 3))

    def test_the_tick_0_is_never_sudden(self):
        track = Track(6, (("a", "write", 0, 3, ((0, 2),), 0, "stop"),))
        self.is_sudden(track, ALL, (3,))
        self.is_steepest(track, ((1, 1), 3))
        self.is_sudden(Track(3, (("a", "write", 0, 3, ((0, 3),), 0, "stop"),)), ALL, ())
        self.is_steepest(Track(3, (("a", "write", 0, 3, ((0, 3),), 0, "stop"),)), None)
        self.is_sudden(Track(1, (("a", "touch", 0, 1, ((0, 1),), 9, "stop"),)), ALL, ())

    def test_the_first_and_the_last_tick_that_can_be(self):
        track = Track(6, (("a", "touch", 1, 2, ((1, 2),), 0, "stop"), ("b", "touch", 5, 6, ((5, 6),), 0, "stop")))
        self.is_sudden(track, ALL, (1, 2, 5))

    def test_a_hold_changes_no_weight(self):
        """The old curve has the weight 1 throughout, whichever tick of it stands there."""
        track = Track(9, (("a", "write", 2, 7, (), 3, "stop"),))
        self.is_sudden(track, ALL, ())
        self.is_steepest(track, None)

    def test_another_tick_of_the_same_movement_changes_no_weight(self):
        track = Track(9, (("a", "latch", 0, 9, ((0, 2), (5, 6)), 3, "stop"),))
        self.is_sudden(track, ALL, ())
        self.is_steepest(track, None)

    def test_a_trim(self):
        """The old curve keeps its weight; that of the movement comes, goes in a glide, and is gone."""
        track = Track(12, (("c", "trim", 0, 9, ((2, 3),), 2, "stop"),))
        self.is_sudden(track, ALL, (2, 3, 4, 5))
        self.is_sudden(track, (1, 3), (2,))
        self.is_sudden(track, (33, 100), (2, 3, 4, 5))
        self.is_steepest(track, ((1, 1), 2))

    def test_a_glide_that_is_cut_off(self):
        """The movement goes out with the weight 2/3, so nothing beyond that is sudden there."""
        track = Track(12, (("t", "trim", 0, 5, ((0, 4),), 2, "stop"),))
        self.is_sudden(track, ALL, (4, 5))
        self.is_sudden(track, (1, 3), (5,))
        self.is_sudden(track, (2, 3), ())
        self.is_sudden(track, (665, 999), (5,))
        self.is_steepest(track, ((2, 3), 5))

    def test_equal_steps_tell_the_least_tick(self):
        track = Track(12, (("t", "trim", 0, 12, ((0, 3),), 3, "stop"),))
        self.is_sudden(track, ALL, (3, 4, 5, 6))
        self.is_steepest(track, ((1, 4), 3))
        later = Track(12, (("t", "trim", 0, 12, ((0, 3), (5, 6)), 3, "stop"),))
        self.is_steepest(later, ((1, 2), 5))

    def test_sources_that_take_each_others_place(self):
        low = ("l", "latch", 0, 9, ((0, 1),), 0, "stop")
        high = ("h", "latch", 4, 9, ((4, 5),), 0, "stop")
        self.is_sudden(Track(9, (low, high)), (99, 100), (4,))
        self.is_sudden(Track(12, (low, high)), (99, 100), (4, 9))


class AgainstTheForms(JumpCase):

    def test_short_tracks(self):
        for track in any_tracks(150, 301):
            self.tells_as_forms(track)

    def test_several_passes(self):
        for track in any_tracks(60, 302, length=16, many=5, names=NAMES):
            self.tells_as_forms(track)
        for track in any_tracks(25, 303, length=14, many=8, names=NAMES):
            self.tells_as_forms(track)

    def test_glides_over_one_another(self):
        for track in any_tracks(60, 304, length=14, many=4, modes=("touch", "trim")):
            self.tells_as_forms(track)

    def test_each_pass_of_a_tiny_track(self):
        for one in each_pass(4, ((0, "stop"), (1, "on"), (2, "stop"))):
            track = Track(4, (one,))
            forms = plain_forms(track)
            for limit in (ALL, (1, 3), (1, 2), (2, 3)):
                self.assertEqual(sudden(track, limit), plain_sudden(forms, limit), str(track))
            self.assertEqual(steepest(track), plain_steepest(forms), str(track))

    def test_each_mode_over_each_mode(self):
        for low in MODES:
            for high in MODES:
                under = ("u", low, 1, 11, ((2, 5), (8, 9)), 2, "stop")
                over = ("o", high, 2, 9, ((3, 4), (6, 7)), 1, "on")
                self.tells_as_forms(Track(13, (under, over)))
                self.tells_as_forms(Track(13, (over, under)))


class Great(JumpCase):

    def test_at_and_beside_the_ends(self):
        dice = Dice(305)
        for many in (1, 2, 4, 8):
            for _ in range(6):
                track = great_track(dice, many)
                for limit in (ALL, (1, 101), (1, 50), (1, 2), (99, 100)):
                    self.is_right_at_edges(track, sudden(track, limit), limit)
                self.is_steepest_at_edges(track)

    def step_at(self, track, tick):
        return step_between(plain_form_of(track, tick - 1), plain_form_of(track, tick))

    def is_right_at_edges(self, track, told, limit):
        self.assertEqual(told, tuple(sorted(set(told))))
        some = {*told[:40], *told[-40:], *[tick for tick in edges(track) if tick]}
        for tick in sorted(some):
            self.assertEqual(tick in told, self.step_at(track, tick) > Fraction(*limit), (str(track), tick, limit))

    def is_steepest_at_edges(self, track):
        told = steepest(track)
        steps = {tick: self.step_at(track, tick) for tick in edges(track) if tick}
        if told is None:
            self.assertEqual(set(steps.values()), {0})
            return
        step, at = Fraction(*told[0]), told[1]
        self.assertEqual(pair(step), told[0])
        self.assertEqual(self.step_at(track, at), step)
        self.assertLessEqual(max(steps.values()), step)
        self.assertEqual([tick for tick in steps if tick < at and steps[tick] == step], [])

    def test_a_long_glide_in_a_great_track(self):
        until = 5 * 10 ** 11
        track = Track(MOST, (("a", "touch", 3, MOST, ((4, until),), 100, "stop"),))
        self.is_sudden(track, ALL, (4, *range(until, until + 101)))
        self.is_sudden(track, (1, 101), (4,))
        self.is_sudden(track, (1, 102), (4, *range(until, until + 101)))
        self.is_steepest(track, ((1, 1), 4))
        self.is_steepest(Track(MOST, (("a", "trim", 0, MOST, ((0, until),), 100, "stop"),)), ((1, 101), until))

    def test_the_last_tick(self):
        track = Track(MOST, (("a", "latch", MOST - 2, MOST, ((MOST - 1, MOST),), 0, "stop"),))
        self.is_sudden(track, ALL, (MOST - 1,))
        self.is_steepest(track, ((1, 1), MOST - 1))


class Refused(JumpCase):

    def test_no_tracks(self):
        for value in NO_TRACKS:
            with self.subTest(repr(value)):
                self.refused_given(NotATrack, value, sudden, value, ALL)
                self.refused_given(NotATrack, value, sudden, limit=ALL, track=value)
                self.refused_given(NotATrack, value, steepest, value)
                self.refused_given(NotATrack, value, steepest, track=value)

    def test_no_limits(self):
        for value in NO_LIMITS:
            for track in (Track(12), Track(12, (A, B, C, D))):
                with self.subTest(repr(value)):
                    self.refused_given(InvalidLimit, value, sudden, track, value)
                    self.refused_given(InvalidLimit, value, sudden, limit=value, track=track)

    def test_each_limit(self):
        track = Track(12, (A, B))
        for limit in LIMITS:
            self.is_sudden(track, limit, plain_sudden(plain_forms(track), limit))

    def test_the_order_of_the_errors(self):
        self.refused_given(NotATrack, None, sudden, None, None)
        self.refused_given(NotATrack, "x", sudden, limit=[1, 2], track="x")

    def test_base_classes_and_files(self):
        self.assertIsInstance(self.refused(InvalidLimit, sudden, Track(1), None), errors.BadValue)
        for call in (sudden, steepest):
            self.assertEqual(call.__module__, jumps.__name__)


if __name__ == "__main__":
    unittest.main()

"""unlike, alike, first_unlike and fitting."""

import unittest

from tests.plain import Dice, any_change, any_track, any_tracks, plain_forms, stretches_of
from tests.samples import A, B, EIGHT, NO_TRACKS, Case
from touchpasses import errors, likeness
from touchpasses.errors import NotATrack, OtherLength
from touchpasses.forms import form
from touchpasses.likeness import alike, first_unlike, fitting, unlike
from touchpasses.tracks import Track

FULL = (1, 1)
MOST = 10 ** 12


def hand(name, first, last, glide=0, mode="touch"):
    """A pass that is touched from its first tick to its last one."""
    return (name, mode, first, last, ((first, last),), glide, "stop")


class PairCase(Case):

    def differ(self, one, other, wanted):
        """The two tracks are unlike in these stretches, in either order, by position and by name."""
        first = wanted[0][0] if wanted else None
        with self.subTest(one=str(one), other=str(other)):
            for left, right in ((one, other), (other, one)):
                self.assertEqual(unlike(left, right), wanted)
                self.assertEqual(unlike(other=right, one=left), wanted)
                self.assertIs(alike(left, right), not wanted)
                self.assertIs(alike(other=right, one=left), not wanted)
                self.assertEqual(first_unlike(left, right), first)
                self.assertEqual(first_unlike(other=right, one=left), first)

    def differ_as_played(self, one, other):
        told = [t for t, (a, b) in enumerate(zip(plain_forms(one), plain_forms(other))) if a != b]
        self.differ(one, other, stretches_of(told))


class Pairs(PairCase):

    def test_equal_tracks(self):
        for track in (Track(1), Track(12), Track(MOST), Track(12, (A, B)), Track(12, EIGHT)):
            self.differ(track, track, ())
            self.differ(track, Track.read(str(track)), ())

    def test_alike_but_not_equal(self):
        for mode in ("latch", "touch", "trim"):
            self.differ(Track(9), Track(9, (("a", mode, 2, 5, (), 7, "on"),)), ())
        self.differ(Track(9), Track(9, (("a", "write", 8, 9, (), 0, "stop"),)), ())
        self.differ(Track(9), Track(9, (("a", "write", 3, 4, (), 7, "stop"),)), ())
        touches = ((3, 9),)
        self.differ(Track(9, (("a", "latch", 2, 9, touches, 0, "stop"),)),
                    Track(9, (("a", "touch", 3, 9, touches, 5, "on"),)), ())
        self.differ(Track(9, (("a", "write", 3, 9, touches, 0, "stop"),)),
                    Track(9, (("a", "latch", 0, 9, touches, 100, "stop"),)), ())
        apart = hand("a", 1, 3), hand("b", 5, 8)
        self.differ(Track(9, apart), Track(9, apart[::-1]), ())
        trims = hand("a", 1, 6, 2, "trim"), hand("b", 3, 8, 5, "trim")
        self.differ(Track(9, trims), Track(9, trims[::-1]), ())

    def test_the_name_of_a_movement_counts(self):
        self.differ(Track(9, (hand("a", 2, 5),)), Track(9, (hand("b", 2, 5),)), ((2, 5),))

    def test_one_tick(self):
        for tick in range(9):
            self.differ(Track(9), Track(9, (hand("a", tick, tick + 1),)), ((tick, tick + 1),))
        self.differ(Track(1), Track(1, (hand("a", 0, 1),)), ((0, 1),))

    def test_several_stretches(self):
        low, high = hand("a", 0, 2), hand("b", 4, 6)
        self.differ(Track(9), Track(9, (low, high)), ((0, 2), (4, 6)))
        self.differ(Track(9, (low, high)), Track(9, (low, hand("b", 3, 7))), ((3, 4), (6, 7)))
        self.differ(Track(9), Track(9, (low, hand("c", 2, 3), high, hand("d", 8, 9))), ((0, 3), (4, 6), (8, 9)))

    def test_the_whole_track(self):
        self.differ(Track(9), Track(9, (hand("a", 0, 9),)), ((0, 9),))
        self.differ(Track(9, (hand("a", 0, 9, 0, "trim"),)), Track(9, (hand("a", 0, 9),)), ((0, 9),))

    def test_glides_of_unlike_lengths(self):
        def glided(glide):
            return Track(12, (("a", "touch", 0, 12, ((2, 4),), glide, "stop"),))
        self.differ(glided(3), glided(5), ((4, 9),))
        self.differ(glided(0), glided(1), ((4, 5),))
        self.differ(glided(99), glided(100), ((4, 12),))

    def test_weights_that_meet_again(self):
        """Two glides that go different ways may have the same weights at some ticks between."""
        one = Track(12, (("a", "touch", 0, 12, ((0, 1),), 3, "stop"),))
        other = Track(12, (("a", "touch", 0, 12, ((0, 1),), 3, "stop"), ("b", "touch", 0, 12, ((2, 3),), 0, "stop")))
        self.differ(one, other, ((2, 3),))

    def test_tails(self):
        one = Track(12, (("a", "latch", 2, 6, ((3, 4),), 0, "stop"),))
        self.differ(one, one.changed(("a", "tail", "on")), ((6, 12),))
        self.differ(one, one.changed(("a", "to", 5)), ((5, 6),))

    def test_held_ticks(self):
        one, other = (Track(12, (("a", "write", first, 9, (), 0, "stop"),)) for first in (3, 5))
        self.differ(one, other, ((4, 9),))
        self.differ(one, Track(12), ((4, 9),))
        self.differ(one, one.changed(("a", "touches", ((3, 4),))), ((3, 9),))
        # Both hold the tick 3, one of them because the other pass does so below it.
        self.differ(one, Track(12, (one["a"], ("b", "write", 6, 9, (), 0, "stop"))), ())

    def test_great_tracks(self):
        first = Track(MOST, (hand("a", 0, 1),))
        last = Track(MOST, (hand("z", MOST - 1, MOST),))
        self.differ(Track(MOST), first, ((0, 1),))
        self.differ(Track(MOST), last, ((MOST - 1, MOST),))
        self.differ(first, last, ((0, 1), (MOST - 1, MOST)))
        half = MOST // 2
        one = Track(MOST, (("a", "latch", 5, MOST, ((7, half),), 0, "stop"),))
        self.differ(one, one.changed(("a", "touches", ((7, half + 1),))), ((half, MOST),))
        self.differ(one, one.changed(("a", "touches", ((8, half),))), ((7, 8),))
        self.differ(one, one.changed(("a", "mode", "touch")), ((half, MOST),))
        self.differ(one, one.changed(("a", "mode", "trim")), ((7, MOST),))
        self.differ(one, one.changed(("a", "from", 7)), ())
        self.differ(one, one.changed(("a", "tail", "on")), ())
        glided = Track(MOST, (("a", "touch", 5, MOST, ((7, half),), 100, "stop"),))
        self.differ(glided, glided.changed(("a", "glide", 99)), ((half, half + 100),))
        self.differ(glided, glided.changed(("a", "to", half + 100)), ())
        self.differ(glided, glided.changed(("a", "to", half + 99)), ((half + 99, half + 100),))

    def test_against_the_played_forms(self):
        dice = Dice(91)
        for track in any_tracks(300, 90, many=3):
            other = any_change(dice, track)
            self.differ_as_played(track, other)
            self.differ_as_played(track, any_change(dice, other))
            self.differ_as_played(track, any_track(dice, track.length, names=track.names + ("x",)))

    def test_the_example_of_the_document(self):
        one, two = Track(12, (A,)), Track(12, (A, B))
        turned = two.moved("a", 1)
        told = [unlike(two, turned), alike(one, two), first_unlike(one, two), form(turned, 7),
                fitting((one, two, turned), ((6, form(two, 6)),))]
        self.assertEqual(told, [((6, 8),), False, 6, (("a", 4, (1, 4)), ("b", 6, (3, 4))), (1,)])


class Refused(Case):

    def test_no_tracks(self):
        track, other = Track(12), Track(13)
        for call in (unlike, alike, first_unlike):
            for value in NO_TRACKS:
                with self.subTest(call=call.__name__, value=repr(value)):
                    self.refused_given(NotATrack, value, call, value, track)
                    self.refused_given(NotATrack, value, call, track, value)
                    self.refused_given(NotATrack, value, call, one=value, other=track)
                    self.refused_given(NotATrack, value, call, other=value, one=other)
                    self.refused_given(NotATrack, value, call, value, None)
                    self.refused_given(NotATrack, value, call, value, value)

    def test_the_first_one_ahead_of_the_second_one(self):
        for call in (unlike, alike, first_unlike):
            first, second = object(), object()
            self.refused_given(NotATrack, first, call, first, second)
            self.refused_given(NotATrack, first, call, other=second, one=first)

    def test_other_lengths(self):
        for call in (unlike, alike, first_unlike):
            for one, other in ((Track(12), Track(13)), (Track(13), Track(12)), (Track(12, (A,)), Track(MOST, (A,))),
                               (Track(1), Track(2))):
                self.refused_given(OtherLength, other, call, one, other)
                self.refused_given(OtherLength, other, call, other=other, one=one)
        self.assertIsInstance(self.refused(OtherLength, alike, Track(1), Track(2)), errors.BadValue)


class Fitting(Case):

    def fit(self, tracks, seen, wanted):
        told = fitting(tracks, seen)
        self.assertEqual((type(told), told), (tuple, wanted))
        self.assertEqual(fitting(seen=seen, tracks=tracks), wanted)

    def test_no_tracks(self):
        self.fit((), (), ())
        self.fit((), ((0, (("old", 0, FULL),)),), ())

    def test_nothing_seen(self):
        self.fit((Track(12), Track(3), Track(12, (A,))), (), (0, 1, 2))

    def test_what_was_seen(self):
        one, two = Track(12, (A,)), Track(12, (A, B))
        tracks = (Track(12), one, two, one)
        self.fit(tracks, ((3, form(one, 3)),), (1, 2, 3))
        self.fit(tracks, ((3, form(one, 3)), (6, form(one, 6))), (1, 3))
        self.fit(tracks, ((6, form(one, 6)), (3, form(one, 3)), (6, form(one, 6))), (1, 3))
        self.fit(tracks, ((6, form(one, 6)), (6, form(two, 6))), ())
        self.fit(tracks, ((0, form(one, 0)),), (0, 1, 2, 3))
        self.fit(tracks, ((6, form(one, 5)),), ())

    def test_ticks_beyond_the_length(self):
        tracks = (Track(5), Track(6), Track(MOST), Track(1))
        self.fit(tracks, ((5, (("old", 5, FULL),)),), (1, 2))
        self.fit(tracks, ((4, (("old", 4, FULL),)),), (0, 1, 2))
        self.fit(tracks, ((MOST - 1, (("old", MOST - 1, FULL),)),), (2,))
        self.fit(tracks, ((MOST, (("old", MOST, FULL),)),), ())
        self.fit(tracks, ((10 ** 30, ()),), ())
        self.fit(tracks, ((0, (("old", 0, FULL),)), (5, (("old", 5, FULL),)), (0, (("old", 0, FULL),))), (1, 2))

    def test_forms_of_no_tick(self):
        right = form(Track(12, (A,)), 5)
        a, old = right
        for wrong in ((), right[::-1], (a,), (old,), right + (old,), (a, a, old), (a, ("old", 5, (2, 8))),
                      (a, ("old", 4, (1, 4))), (("b", 4, (3, 4)), old), (("a", 4, (6, 8)), old),
                      (("a", 4, (1, 4)), ("old", 5, (3, 4))), (("", 0, (0, 1)),) + right, (("old", 5, (1, 1)),),
                      (("a", 4, (-3, -4)), ("old", 5, (-1, -4)))):
            self.fit((Track(12, (A,)), Track(12)), ((5, wrong),), (1,) if wrong == (("old", 5, FULL),) else ())

    def test_against_the_played_forms(self):
        dice = Dice(92)
        for base in any_tracks(40, 93, many=3):
            tracks = (base,) + tuple(any_change(dice, base) for _ in range(6)) + tuple(any_tracks(3, dice.upto(999)))
            played = [plain_forms(track) for track in tracks]
            for many in (1, 2, 4):
                ticks = [dice.upto(base.length - 1) for _ in range(many)]
                seen = tuple((tick, played[0][tick]) for tick in ticks)
                wanted = [at for at, forms in enumerate(played)
                          if all(tick < len(forms) and forms[tick] == told for tick, told in seen)]
                self.fit(tracks, seen, tuple(wanted))

    def test_the_interface_stands_in_the_file(self):
        for call in (unlike, alike, first_unlike, fitting):
            self.assertEqual(call.__module__, likeness.__name__)


if __name__ == "__main__":
    unittest.main()

"""mends: the least sets of changes, against trying all sets."""

import unittest

from tests.plain import MODES, Dice, any_tracks
from tests.plain_wishes import any_wish, plain_behind, plain_holds, plain_mends
from tests.samples import A, B, C, D, NO_NAMES, NO_TRACKS, NO_TUPLES, Case, Everything
from tests.wish_samples import NO_WISHES
from touchpasses import errors, mends as mends_file
from touchpasses.errors import InvalidChanges, InvalidWishes, NotATrack
from touchpasses.mends import holds, mends
from touchpasses.tracks import Track

MOST = 10 ** 12
ONE, TWO = Track(12, (A,)), Track(12, (A, B))
CALM = ("calm", (1, 1))
KEPT = (("kept", 7, 8),)
ANY_VALUES = (None, True, -1, 10 ** 39, "", "x", b"x", (), (1, 2), [], [3], {}, {"a": 1}, object(), Everything(),
              ((3, 5), (3, 5)), [[["x"]]])


def any_part(dice, track):
    """A change of a part of a pass, often one that gives no track."""
    name = dice.one_of(track.names)
    part = dice.one_of(("mode", "from", "to", "touches", "touches", "glide", "tail"))
    first = dice.upto(track.length)
    values = {"mode": MODES, "from": (first,), "to": (first, track.length), "glide": (0, 1, 2, 3, 100, 101),
              "tail": ("stop", "on"), "touches": ((), ((first, first + 1),), ((first, first + 2),), ((0, first),))}
    return name, part, dice.one_of(values[part])


class MendCase(Case):

    def tells(self, track, wishes, changes, wanted):
        before = track.length, track.passes, str(track)
        for told in (mends(track, wishes, changes), mends(changes=changes, track=track, wishes=wishes)):
            self.assertEqual((type(told), told), (tuple, wanted), f"{wishes}, {changes} of {track}")
        self.assertEqual((track.length, track.passes, str(track)), before)


class WrittenOut(MendCase):

    def test_the_example(self):
        changes = (("a", "glide", 1), ("a", "to", 7), ("a", "glide", 2), ("a", "mode", "latch"), ("a", "to", 99))
        self.tells(ONE, KEPT, changes, ((0,), (1,), (2,)))

    def test_no_wishes(self):
        self.tells(ONE, (), (), ((),))
        self.tells(ONE, (), (("a", "glide", 1), ("a", "to", 99)), ((),))

    def test_no_changes(self):
        self.tells(ONE, (CALM,), (), ((),))
        self.tells(ONE, KEPT, (), ())
        self.tells(Track(12), KEPT, (), ((),))
        self.tells(Track(12), (("heard", "a", 0, 1),), (), ())

    def test_the_empty_set(self):
        """What holds already needs no change, so no other set is least."""
        self.tells(ONE, (CALM, ("kept", 0, 3)), (("a", "glide", 1), ("a", "tail", "on")), ((),))

    def test_no_set_at_all(self):
        self.tells(ONE, (("heard", "x", 0, 1),), (("a", "glide", 1), ("a", "to", 7)), ())
        self.tells(ONE, KEPT + (("heard", "a", 9, 10),), (("a", "glide", 1),), ())

    def test_all_wishes_together(self):
        wishes = KEPT + (("heard", "a", 2, 4),)
        changes = (("a", "glide", 1), ("a", "touches", ((2, 4),)), ("a", "mode", "trim"))
        self.tells(ONE, wishes, changes, ((1,),))
        self.tells(ONE, wishes + (("kept", 6, 7),), changes, ((0, 1),))
        self.tells(ONE, (("kept", 6, 7),), changes, ((0,),))

    def test_changes_that_are_good_only_together(self):
        wishes = (("kept", 0, 6),)
        changes = (("a", "from", 6), ("a", "touches", ((7, 8),)), ("a", "glide", 0))
        self.tells(ONE, wishes, changes, ((1,),))
        self.tells(ONE, (("kept", 0, 6), ("heard", "a", 8, 10)),
                   (("a", "to", 12), ("a", "touches", ((8, 10),)), ("a", "glide", 0)), ((0, 1),))

    def test_changes_that_give_no_track_alone(self):
        held = Track(12, (("w", "write", 2, 6, (), 0, "stop"),))
        self.tells(held, (("kept", 0, 8),), (("w", "from", 8), ("w", "to", 10)), ((0, 1),))
        self.tells(held, (("flat", 8, 10),), (("w", "to", 10), ("w", "from", 8)), ((0,),))

    def test_one_part_twice(self):
        """No set has two changes of one part, whatever they are."""
        changes = (("a", "glide", 2), ("a", "glide", 1), ("a", "to", 7))
        self.tells(ONE, (("kept", 6, 7),), changes, ((1,),))
        self.tells(ONE, (("kept", 5, 6),), changes, ())
        self.tells(ONE, KEPT, changes, ((0,), (1,), (2,)))
        wishes = (("heard", "a", 8, 10),)
        changes = (("a", "to", 5), ("a", "touches", ((8, 10),)), ("a", "to", 10), ("a", "to", 12))
        self.tells(ONE, wishes, changes, ((1, 2), (1, 3)))

    def test_the_same_part_of_two_passes(self):
        row = tuple((name, "latch", 2, 8, ((3, 5),), 0, "stop") for name in "ab")
        self.tells(Track(12, row), (("kept", 7, 8),), (("a", "to", 7), ("b", "to", 7)), ((0, 1),))
        self.tells(Track(12, row), (("kept", 7, 8),), (("b", "to", 7), ("b", "to", 6), ("a", "to", 7)),
                   ((0, 2), (1, 2)))

    def test_the_same_change_twice(self):
        self.tells(ONE, KEPT, (("a", "glide", 1), ("a", "glide", 1)), ((0,), (1,)))
        self.tells(ONE, KEPT, (("a", "glide", 3), ("a", "glide", 3)), ())

    def test_a_change_to_what_is_there(self):
        self.tells(ONE, KEPT, (("a", "glide", 3), ("a", "to", 7)), ((1,),))
        self.tells(ONE, (CALM,), (("a", "glide", 3),), ((),))

    def test_a_greater_set_may_mend_without_a_part_that_does(self):
        """Neither the first nor the second one alone, and the third one stands for both."""
        row = tuple((name, "latch", 2, 8, ((3, 5),), 0, "stop") for name in "ab")
        changes = (("a", "mode", "touch"), ("b", "mode", "touch"), ("b", "touches", ((2, 7),)), ("b", "to", 12))
        self.tells(Track(12, row), (("kept", 7, 8),), changes, ((0, 1),))
        self.tells(Track(12, row), (("heard", "b", 2, 3),), changes, ((2,),))

    def test_the_order_of_the_sets(self):
        row = tuple((name, "touch", k, k + 1, ((k, k + 1),), 0, "stop") for k, name in enumerate("abc"))
        changes = (("a", "touches", ()), ("b", "touches", ()), ("a", "mode", "trim"), ("c", "mode", "write"),
                   ("b", "glide", 5), ("b", "mode", "latch"))
        self.tells(Track(9, row), (("kept", 0, 2),), changes, ((0, 1),))
        self.tells(Track(9, row), (("kept", 0, 1),), changes, ((0,),))
        self.tells(Track(9, row), (("calm", (1, 1)),), changes, ((),))
        ends = (("a", "to", 4), ("b", "to", 4), ("c", "to", 4), ("a", "tail", "on"), ("b", "tail", "on"))
        modes = tuple(one[:1] + ("latch",) + one[2:] for one in row)
        self.tells(Track(9, modes), (("heard", "c", 2, 3),), ends, ((),))
        wish = ("flat", 3, 4)
        self.tells(Track(9, modes), (wish, ("heard", "a", 0, 1)), ends, ((),))

    def test_values_of_any_kind_give_no_track(self):
        for part in ("mode", "from", "to", "touches", "glide", "tail"):
            for value in ANY_VALUES:
                if part != "touches" or value != ():
                    with self.subTest(part=part, value=repr(value)):
                        changes = (("a", part, value), ("a", "glide" if part == "to" else "to",
                                                        7 if part != "to" else 1))
                        self.tells(ONE, KEPT, changes, ((1,),))
        self.tells(ONE, KEPT, (("a", "touches", ()), ("a", "touches", [])), ((0,),))

    def test_each_part(self):
        for change in (("a", "mode", "trim"), ("a", "mode", "latch"), ("a", "mode", "write")):
            self.tells(ONE, (("like", str(ONE.changed(change))),), (change,), ((0,),))
        for change in (("a", "from", 3), ("a", "to", 6), ("a", "touches", ((2, 3), (4, 7))), ("a", "glide", 0),
                       ("a", "tail", "on")):
            track = ONE.changed(("a", "mode", "write")).changed(("a", "touches", ((5, 6),))) if change[1] in (
                "from", "tail") else ONE
            self.tells(track, (("like", str(track.changed(change))),), (change,), ((0,),))

    def test_six_wishes_and_six_changes(self):
        wishes = (("kept", 7, 8), ("heard", "a", 3, 5), CALM, ("kept", 0, 3), ("flat", 3, 4), ("kept", 11, 12))
        changes = (("a", "glide", 2), ("a", "glide", 1), ("a", "to", 7), ("a", "mode", "latch"), ("a", "tail", "on"),
                   ("a", "touches", ((3, 4),)))
        self.tells(ONE, wishes, changes, plain_mends(ONE, wishes, changes))
        self.assertEqual(mends(ONE, wishes, changes), ((0,), (1,), (2,)))
        self.tells(ONE, (CALM,) * 6, (("a", "glide", 1),) * 6, ((),))
        self.tells(ONE, KEPT * 6, (("a", "glide", 1),) * 6, ((0,), (1,), (2,), (3,), (4,), (5,)))

    def test_six_changes_that_are_all_needed(self):
        row = tuple((name, "latch", 2 * k, 2 * k + 2, ((2 * k, 2 * k + 1),), 0, "stop") for k,
                    name in enumerate("abcdef"))
        changes = tuple((name, "touches", ()) for name in "abcdef")
        self.tells(Track(12, row), (("kept", 0, 12),), changes, ((0, 1, 2, 3, 4, 5),))


class AgainstAllSets(MendCase):

    def a_wish_behind(self, dice, track, changes):
        """A wish for the track, which often holds behind some of the changes and not ahead of them."""
        behind = plain_behind(track, [change for change in changes if dice.upto(1)]) or track
        for _ in range(12):
            wish = any_wish(dice, behind, [behind])
            if plain_holds(behind, wish) and not plain_holds(track, wish):
                break
        return wish

    def test_short_tracks(self):
        dice, sizes = Dice(501), {}
        for track in any_tracks(260, 502, length=8, many=2):
            changes = tuple(any_part(dice, track) for _ in range(dice.upto(6)))
            wishes = tuple(self.a_wish_behind(dice, track, changes) for _ in range(1 + dice.upto(1)))
            wanted = plain_mends(track, wishes, changes)
            for part in wanted:
                sizes[len(part)] = sizes.get(len(part), 0) + 1
            self.tells(track, wishes, changes, wanted)
        self.assertTrue({0, 1, 2, 3} <= set(sizes), sizes)

    def test_to_be_like_a_changed_track(self):
        dice = Dice(503)
        for track in any_tracks(60, 504, length=9, many=2):
            changes = tuple(any_part(dice, track) for _ in range(6))
            behind = plain_behind(track, changes[:2]) or plain_behind(track, changes[2:4]) or track
            wishes = (("like", str(behind)),)
            wanted = plain_mends(track, wishes, changes)
            self.tells(track, wishes, changes, wanted)


class Great(MendCase):

    def test_a_great_track(self):
        half = 5 * 10 ** 11
        track = Track(MOST, (("a", "touch", 3, MOST, ((4, half),), 100, "stop"),
                             ("b", "latch", 0, MOST, ((half, half + 5),), 0, "stop")))
        wishes = (("kept", half + 200, MOST), ("heard", "a", 4, half))
        changes = (("b", "to", half + 50), ("b", "mode", "touch"), ("a", "glide", 0), ("b", "to", half + 201),
                   ("a", "to", half), ("b", "touches", ()))
        self.tells(track, wishes, changes, ((0,), (1,), (5,)))

    def test_eight_passes_with_six_touches(self):
        row = tuple((name, "touch", 0, MOST, tuple((10 ** 6 * k + 10 ** 8 * n, 10 ** 6 * k + 10 ** 8 * n + 5)
                                                   for k in range(6)), 100, "on") for n, name in enumerate("abcdefgh"))
        track = Track(MOST, row)
        changes = (("a", "glide", 0), ("b", "glide", 0), ("c", "glide", 0), ("a", "touches", ()), ("h", "tail", "stop"),
                   ("g", "to", 5 * 10 ** 11))
        self.tells(track, (("kept", 5, 10), ("heard", "h", 7 * 10 ** 8, 7 * 10 ** 8 + 5)), changes, ((0,), (3,)))


class Refused(MendCase):

    def wrong_wishes(self, index, wishes, changes=(), track=TWO):
        with self.subTest(repr(wishes)):
            self.refused_index(InvalidWishes, index, mends, track, wishes, changes)
            self.refused_index(InvalidWishes, index, mends, changes=changes, wishes=wishes, track=track)

    def wrong_changes(self, index, changes, wishes=(), track=TWO):
        with self.subTest(repr(changes)):
            self.refused_index(InvalidChanges, index, mends, track, wishes, changes)
            self.refused_index(InvalidChanges, index, mends, changes=changes, wishes=wishes, track=track)

    def test_no_tracks(self):
        for value in NO_TRACKS:
            with self.subTest(repr(value)):
                self.refused_given(NotATrack, value, mends, value, (), ())
                self.refused_given(NotATrack, value, mends, changes=(), wishes=(), track=value)

    def test_no_tuple_of_wishes(self):
        for value in NO_TUPLES + ([CALM], {CALM: 1}, {CALM}, "calm", ONE):
            self.wrong_wishes(None, value)

    def test_each_wrong_wish(self):
        for value in NO_WISHES:
            self.wrong_wishes(0, (value,))
        for value in NO_WISHES[::7] + (None, [], ("kept", 0, 13)):
            self.wrong_wishes(0, (value, CALM))
            self.wrong_wishes(1, (CALM, value, None))
            self.wrong_wishes(5, (CALM,) * 5 + (value,))
            self.wrong_wishes(5, (CALM,) * 5 + (value,) * 3)

    def test_a_seventh_wish(self):
        self.wrong_wishes(6, (CALM,) * 7)
        self.wrong_wishes(6, (CALM,) * 9)
        self.wrong_wishes(6, (CALM,) * 6 + (None,))
        self.wrong_wishes(2, (CALM, CALM, None) + (CALM,) * 6)

    def test_one_wish_is_no_tuple_of_wishes(self):
        self.wrong_wishes(0, CALM)
        self.wrong_wishes(0, ("kept", 3, 5))

    def test_no_tuple_of_changes(self):
        for value in NO_TUPLES + ([("a", "glide", 1)], {("a", "glide", 1)}, "glide", ONE):
            self.wrong_changes(None, value)

    def test_each_wrong_change(self):
        good = ("a", "glide", 1)
        for value in NO_TUPLES + ((), ("a",), ("a", "glide"), ("a", "glide", 1, 2), ("a", "glide", 1, None),
                                  ["a", "glide", 1], (good,), ("a", ("glide", 1))):
            self.wrong_changes(0, (value,))
            self.wrong_changes(1, (good, value, good))
            self.wrong_changes(5, (good,) * 5 + (value,))
        for name in NO_NAMES:
            self.wrong_changes(0, ((name, "glide", 1),))
            self.wrong_changes(1, (good, (name, "glide", 1)))
        for part in ("", "name", "Glide", "glides", "glid", "from ", "FROM", "length", "place", None, True, 5,
                     ("glide",),
                     ["glide"], {}, b"glide", object(), Everything()):
            self.wrong_changes(0, (("a", part, 1),))
            self.wrong_changes(2, (good, good, ("a", part, 1), None))

    def test_the_passes_of_the_track_count(self):
        self.wrong_changes(0, (("b", "glide", 1),), track=ONE)
        self.wrong_changes(0, (("a", "glide", 1),), track=Track(12, (C, D)))
        self.wrong_changes(0, (("a", "glide", 1),), track=Track(12))

    def test_a_seventh_change(self):
        good = ("a", "glide", 1)
        self.wrong_changes(6, (good,) * 7)
        self.wrong_changes(6, (good,) * 6 + (None,) * 2)
        self.wrong_changes(3, (good,) * 3 + (None,) * 6)

    def test_one_change_is_no_tuple_of_changes(self):
        self.wrong_changes(0, ("a", "glide", 1))

    def test_the_order_of_the_errors(self):
        self.refused_given(NotATrack, None, mends, None, None, None)
        self.refused_given(NotATrack, "x", mends, changes=(1,), wishes=(1,), track="x")
        self.wrong_wishes(None, None, None)
        self.wrong_wishes(0, (None,), (None,))
        self.wrong_wishes(6, (CALM,) * 7, [1])
        self.wrong_changes(None, None, (CALM,))
        self.wrong_changes(0, (None,), KEPT)

    def test_nothing_is_changed(self):
        wishes, changes = [["calm", [1, 1]]], [["a", "glide", 1]]
        self.wrong_wishes(None, wishes, changes)
        self.wrong_wishes(0, tuple(wishes), changes)
        self.wrong_changes(0, tuple(changes))
        self.assertEqual((wishes, changes), ([["calm", [1, 1]]], [["a", "glide", 1]]))
        value = [3, 5]
        mends(ONE, KEPT, (("a", "touches", value),))
        self.assertEqual(value, [3, 5])

    def test_what_mends_does_so(self):
        changes = (("a", "glide", 1), ("a", "to", 7))
        for part in mends(ONE, KEPT, changes):
            track = ONE
            for k in part:
                track = track.changed(changes[k])
            self.assertTrue(holds(track, KEPT[0]))

    def test_base_classes_and_files(self):
        self.assertIsInstance(self.refused(InvalidWishes, mends, Track(1), None, None), errors.BadValue)
        self.assertIsInstance(self.refused(InvalidChanges, mends, Track(1), (), None), errors.BadValue)
        self.assertEqual(mends.__module__, mends_file.__name__)


if __name__ == "__main__":
    unittest.main()

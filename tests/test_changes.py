"""put, without, moved, changed: the tracks that they give, and what they refuse."""

import unittest

from tests.samples import A, B, C, D, EIGHT, NO_NAMES, PLACES, RIGHT, WRONG, Case, a_pass, named
from tests.samples import WRONG_FROMS, WRONG_GLIDES, WRONG_MODES, WRONG_TAILS, WRONG_TOS, WRONG_TOUCHES
from touchpasses.errors import InvalidChange, InvalidPass, InvalidPlace, TooMany, UnknownName
from touchpasses.tracks import Track

NO_INTEGERS = (True, False, "", "0", "1", b"0", (), (0,), [], [0], {}, {0: 0}, object())
WRONG_VALUES = {"mode": WRONG_MODES, "from": WRONG_FROMS, "to": WRONG_TOS, "touches": WRONG_TOUCHES,
                "glide": WRONG_GLIDES, "tail": WRONG_TAILS}


class ChangeCase(Case):
    """A test case that looks whether tracks stay as they were."""

    def gives(self, track, passes, call, *args, **named_args):
        """The call gives the track with these passes, and the one it is called at stays as it was."""
        length, before, text = track.length, track.passes, str(track)
        told = call(*args, **named_args)
        self.assertIs(type(told), Track)
        self.assertEqual((told.length, told.passes), (length, tuple(passes)))
        self.assertEqual((told.names, len(told)), (tuple(one[0] for one in passes), len(passes)))
        self.assertEqual(told, Track(length, tuple(passes)))
        self.stays(track, length, before, text)
        return told

    def stays(self, track, length, before, text):
        self.assertEqual((track.length, track.passes, str(track)), (length, before, text))

    def refused(self, error, call, *args, **named_args):
        track = call.__self__
        kept = track.length, track.passes, str(track)
        found = Case.refused(self, error, call, *args, **named_args)
        self.stays(track, *kept)
        return found


class Put(ChangeCase):

    def test_each_place(self):
        track = Track(12, (A, B, C))
        for place in range(4):
            with self.subTest(place):
                passes = [A, B, C]
                passes.insert(place, D)
                self.gives(track, passes, track.put, D, place)
                self.gives(track, passes, track.put, one_pass=D, place=place)
                self.gives(track, passes, track.put, place=place, one_pass=D)
                self.gives(track, passes, track.put, D, place=place)

    def test_behind_all_others(self):
        track = Track(12, (A, B))
        self.gives(track, (A, B, C), track.put, C)
        self.gives(track, (A, B, C), track.put, C, None)
        self.gives(track, (A, B, C), track.put, one_pass=C)
        self.gives(track, (A, B, C), track.put, one_pass=C, place=None)

    def test_into_an_empty_track(self):
        track = Track(12)
        self.gives(track, (A,), track.put, A)
        self.gives(track, (A,), track.put, A, None)
        self.gives(track, (A,), track.put, A, 0)

    def test_each_right_pass(self):
        track = Track(12, (a_pass(name="first"),))
        for one in RIGHT:
            with self.subTest(one):
                self.gives(track, track.passes + (one,), track.put, one)
                self.gives(track, (one,) + track.passes, track.put, one, 0)

    def test_the_eighth(self):
        track = Track(12, EIGHT[:7])
        self.gives(track, EIGHT, track.put, EIGHT[7])
        self.gives(track, EIGHT, track.put, EIGHT[7], 7)
        self.gives(track, EIGHT[7:] + EIGHT[:7], track.put, EIGHT[7], 0)

    def test_wrong_passes(self):
        empty, track = Track(12), Track(12, (B, C))
        for wrong in WRONG:
            with self.subTest(repr(wrong)):
                self.refused_given(InvalidPass, wrong, empty.put, wrong)
                self.refused_given(InvalidPass, wrong, track.put, wrong, 0)
                self.refused_given(InvalidPass, wrong, track.put, one_pass=wrong, place=None)

    def test_names_that_are_there(self):
        track = Track(12, (A, B))
        for one in (A, B, a_pass(mode="write"), a_pass(name="b"), a_pass(touches=(), tail="on")):
            with self.subTest(one):
                self.refused_given(InvalidPass, one, track.put, one)
                self.refused_given(InvalidPass, one, track.put, one, 0)

    def test_the_length_of_the_track_counts(self):
        one = a_pass(to=9)
        self.gives(Track(9), (one,), Track(9).put, one)
        self.refused_given(InvalidPass, one, Track(8).put, one)

    def test_wrong_places(self):
        track = Track(12, (A, B))
        for place in (-1, 3, 4, 99, 10 ** 12, -10 ** 12) + NO_INTEGERS:
            with self.subTest(repr(place)):
                self.refused_given(InvalidPlace, place, track.put, C, place)
                self.refused_given(InvalidPlace, place, track.put, place=place, one_pass=C)
        self.refused_given(InvalidPlace, 1, Track(12).put, A, 1)
        self.refused_given(InvalidPlace, -1, Track(12).put, A, -1)

    def test_a_ninth_pass(self):
        track = Track(12, EIGHT)
        ninth = a_pass(name="i")
        for args in ((ninth,), (ninth, None), (ninth, 0), (ninth, 7), (ninth, 8)):
            with self.subTest(args):
                found = self.refused(TooMany, track.put, *args).most
                self.assertEqual((type(found), found), (int, 8))

    def test_the_order_of_the_errors(self):
        track, full = Track(12, (A, B)), Track(12, EIGHT)
        ninth = a_pass(name="i")
        self.refused_given(InvalidPass, None, track.put, None, -1)
        self.refused_given(InvalidPass, A, track.put, A, "x")
        self.refused_given(InvalidPass, None, full.put, None, -1)
        self.refused_given(InvalidPass, None, full.put, None)
        self.refused_given(InvalidPass, EIGHT[0], full.put, EIGHT[0])
        self.refused_given(InvalidPass, EIGHT[0], full.put, EIGHT[0], 9)
        for place in (9, -1, True, "x", [0]):
            self.refused_given(InvalidPlace, place, full.put, ninth, place)


class Without(ChangeCase):

    def test_each_name(self):
        track = Track(12, (A, B, C))
        self.gives(track, (B, C), track.without, "a")
        self.gives(track, (A, C), track.without, "b")
        self.gives(track, (A, B), track.without, "c")
        self.gives(track, (A, C), track.without, name="b")

    def test_the_only_pass(self):
        track = Track(12, (A,))
        told = self.gives(track, (), track.without, "a")
        self.assertIs(bool(told), True)
        self.assertIs("a" in told, False)

    def test_put_and_taken(self):
        track = Track(12, (A, B))
        for place in (None, 0, 1, 2):
            with self.subTest(place):
                self.assertEqual(track.put(C, place).without("c"), track)

    def test_of_eight(self):
        track = Track(12, EIGHT)
        for at, one in enumerate(EIGHT):
            with self.subTest(at):
                self.gives(track, EIGHT[:at] + EIGHT[at + 1:], track.without, one[0])

    def test_no_names(self):
        for value in NO_NAMES:
            with self.subTest(repr(value)):
                for track in (Track(12, (A, B)), Track(12)):
                    self.refused_given(UnknownName, value, track.without, value)
                    self.refused_given(UnknownName, value, track.without, name=value)


class Moved(ChangeCase):

    def test_each_name_to_each_place(self):
        track = Track(12, (A, B, C, D))
        for one in (A, B, C, D):
            for place in range(4):
                with self.subTest(name=one[0], place=place):
                    passes = [other for other in (A, B, C, D) if other != one]
                    passes.insert(place, one)
                    told = self.gives(track, passes, track.moved, one[0], place)
                    self.assertEqual(told.names.index(one[0]), place)
                    self.gives(track, passes, track.moved, name=one[0], place=place)
                    self.gives(track, passes, track.moved, place=place, name=one[0])

    def test_within_eight(self):
        track = Track(12, EIGHT)
        self.gives(track, EIGHT[1:] + EIGHT[:1], track.moved, "a", 7)
        self.gives(track, EIGHT[7:] + EIGHT[:7], track.moved, "h", 0)
        self.gives(track, EIGHT, track.moved, "d", 3)

    def test_the_only_pass(self):
        self.gives(Track(12, (A,)), (A,), Track(12, (A,)).moved, "a", 0)
        self.refused_given(InvalidPlace, 1, Track(12, (A,)).moved, "a", 1)

    def test_wrong_places(self):
        track = Track(12, (A, B))
        for place in (-1, 2, 3, 99, 10 ** 12, None) + NO_INTEGERS:
            with self.subTest(repr(place)):
                self.refused_given(InvalidPlace, place, track.moved, "a", place)
                self.refused_given(InvalidPlace, place, track.moved, place=place, name="b")
        self.refused_given(InvalidPlace, 8, Track(12, EIGHT).moved, "a", 8)

    def test_no_names(self):
        for value in NO_NAMES:
            with self.subTest(repr(value)):
                for track in (Track(12, (A, B)), Track(12)):
                    self.refused_given(UnknownName, value, track.moved, value, 0)
                    self.refused_given(UnknownName, value, track.moved, name=value, place=0)

    def test_the_order_of_the_errors(self):
        track = Track(12, (A, B))
        for place in (-1, 2, None, "x", True, [0]):
            with self.subTest(repr(place)):
                self.refused_given(UnknownName, "x", track.moved, "x", place)
                self.refused_given(UnknownName, None, track.moved, None, place)


class Changed(ChangeCase):

    def test_each_part(self):
        values = {"mode": ("write", "latch", "touch", "trim"), "from": (0, 1, 2, 3), "to": (5, 6, 8, 12),
                  "touches": ((), ((2, 8),), ((2, 3), (4, 5), (7, 8))), "glide": (0, 1, 3, 100),
                  "tail": ("on", "stop")}
        for part, many in values.items():
            for value in many:
                with self.subTest(part=part, value=value):
                    for passes in ((A,), (A, B), (B, A), (B, A, C)):
                        track = Track(12, passes)
                        wanted = tuple(a_pass(**{part: value}) if one == A else one for one in passes)
                        self.gives(track, wanted, track.changed, ("a", part, value))
                        self.gives(track, wanted, track.changed, change=("a", part, value))

    def test_the_other_pass(self):
        track = Track(12, (A, B))
        self.gives(track, (A, B[:6] + ("on",)), track.changed, ("b", "tail", "on"))
        self.gives(track, (A, B[:5] + (7,) + B[6:]), track.changed, ("b", "glide", 7))

    def test_changes_behind_each_other(self):
        told = Track(12, (A,)).changed(("a", "touches", ())).changed(("a", "to", 3)).changed(("a", "from", 0))
        self.assertEqual(told, Track(12, (("a", "touch", 0, 3, (), 3, "stop"),)))

    def test_of_eight(self):
        track = Track(12, EIGHT)
        self.gives(track, EIGHT[:7] + (a_pass(name="h", glide=9),), track.changed, ("h", "glide", 9))

    def none(self, track, change):
        with self.subTest(change=repr(change), track=str(track)):
            self.refused_given(InvalidChange, change, track.changed, change)
            self.refused_given(InvalidChange, change, track.changed, change=change)

    def test_no_triples(self):
        for change in (None, True, 0, 3, "", "abc", "a glide 3", b"abc", (), ("a",), ("a", "glide"),
                       ("a", "glide", 3, 3), ("a", "glide", 3, None), ["a", "glide", 3], {}, {"a": 1, "glide": 2, 3: 3},
                       (("a", "glide", 3),), object(), A):
            self.none(Track(12, (A, B)), change)

    def test_no_names(self):
        for value in NO_NAMES:
            self.none(Track(12, (A, B)), (value, "glide", 3))
            self.none(Track(12), (value, "glide", 3))

    def test_no_parts(self):
        for part in ("", "name", "Glide", "GLIDE", "glides", " glide", "FROM", "old", "stop", "length", "pass", "a",
                     None, True, False, 0, 1, 5, (), ("glide",), [], ["glide"], {}, {"glide": 1}, b"glide", object()):
            for value in (3, "a", "c", "touch", A):
                self.none(Track(12, (A, B)), ("a", part, value))

    def test_no_track_behind_it(self):
        for part, values in WRONG_VALUES.items():
            for value in values:
                self.none(Track(12, (A,)), ("a", part, value))
                self.none(Track(12, (B, A, C)), ("a", part, value))

    def test_a_part_that_does_not_fit_the_others(self):
        for change in (("a", "from", 4), ("a", "from", 8), ("a", "to", 4), ("a", "to", 2), ("a", "touches", ((1, 3),)),
                       ("a", "touches", ((6, 9),)), ("a", "to", 13)):
            self.none(Track(12, (A,)), change)
        self.none(Track(8, (A,)), ("a", "to", 9))
        self.gives(Track(9, (A,)), (a_pass(to=9),), Track(9, (A,)).changed, ("a", "to", 9))

    def test_truths_are_no_integers(self):
        wide = a_pass(from_=0, touches=())
        for change in (("a", "from", False), ("a", "from", True), ("a", "to", True), ("a", "glide", True),
                       ("a", "glide", False), ("a", "touches", ((False, 3),)), ("a", "touches", ((0, True),))):
            self.none(Track(12, (wide,)), change)

    def test_the_same_part_again(self):
        track = Track(12, (A, B))
        for part, at in PLACES.items():
            if part != "name":
                with self.subTest(part):
                    self.gives(track, (A, B), track.changed, ("a", part, A[at]))


class Example(unittest.TestCase):

    def test_the_example_of_the_document(self):
        a, b = ("a", "touch", 2, 8, ((3, 5),), 3, "stop"), ("b", "latch", 4, 10, ((6, 7),), 0, "stop")
        one = Track(12, (a,))
        two = Track.read("track 12\npass a touch 2 8 3 stop 3-5\npass b latch 4 10 0 stop 6-7")
        told = [two == one.put(b), two.names, two["b"] == b, "old" in two, two.without("b") == one,
                str(two.moved("a", 1).changed(("b", "tail", "on")))]
        self.assertEqual(told, [True, ("a", "b"), True, False, True,
                                "track 12\npass b latch 4 10 0 on 6-7\npass a touch 2 8 3 stop 3-5"])


class Returned(ChangeCase):

    def test_what_the_calls_give_can_be_passed_on(self):
        track = Track(12, (A, B))
        again = Track(track.length, track.passes)
        self.assertEqual(again, track)
        self.assertEqual(Track(12).put(track["a"]).put(track["b"]), track)
        self.assertEqual(Track.read(str(track)).moved(track.names[0], 1), Track(12, (B, A)))

    def test_equal_calls_give_equal_tracks(self):
        one, two = Track(12, (A, B)), Track(12, (A, B))
        self.assertEqual(one.put(C, 1), two.put(C, 1))
        self.assertEqual(one.without("a"), two.without("a"))
        self.assertEqual(one.moved("a", 1), two.moved("a", 1))
        self.assertEqual(one.changed(("a", "glide", 9)), two.changed(("a", "glide", 9)))
        self.assertEqual(str(one), str(two))

    def test_arguments_stay_as_they_were(self):
        change, wrong = ["a", "glide", 3], [list(A)]
        self.refused_given(InvalidChange, change, Track(12, (A,)).changed, change)
        self.refused_given(InvalidPass, wrong, Track(12).put, wrong)
        self.assertEqual((change, wrong), (["a", "glide", 3], [list(A)]))

    def test_named(self):
        self.assertEqual(Track(12, named("x", "y")).without("x").names, ("y",))


if __name__ == "__main__":
    unittest.main()

"""Desk: each of its methods, done and refused, and what can be taken back."""

import unittest

from tests.plain import Dice, any_change, any_pass, any_tracks
from tests.plain_wishes import any_wish, plain_holds
from tests.samples import A, B, C, D, EIGHT, NO_NAMES, NO_TRACKS, WRONG, Case, Everything, a_pass
from tests.wish_samples import NO_WISHES, WISHES
from touchpasses import desks, errors
from touchpasses.desks import Desk
from touchpasses.errors import Broken, InvalidChange, InvalidIndex, InvalidPass, InvalidPlace, InvalidWish
from touchpasses.errors import NotATrack, NothingToUndo, TooMany, UnknownName
from touchpasses.mends import holds
from touchpasses.tracks import Track

MOST = 10 ** 12
ONE, TWO = Track(12, (A,)), Track(12, (A, B))
HEARD, CALM, KEPT = ("heard", "a", 3, 5), ("calm", (1, 1)), ("kept", 0, 2)
OVER = ("g", "write", 2, 5, (), 0, "stop")
NO_INTEGERS = (None, True, False, "", "0", b"0", (), (0,), [], [0], {}, {0: 0}, object(), Everything())


def told(desk):
    """All that a desk tells of itself."""
    return desk.track, desk.promises, desk.changes, len(desk), str(desk.track)


class DeskCase(Case):

    def does(self, desk, call, *args, **named_args):
        """The call is one change more and returns None."""
        many = desk.changes
        self.assertIsNone(call(*args, **named_args))
        self.assertEqual((type(desk.changes), desk.changes), (int, many + 1))

    def stands(self, desk, track, promises=()):
        self.assertEqual((type(desk.track), desk.track), (Track, track))
        self.assertEqual((type(desk.promises), desk.promises), (tuple, tuple(promises)))
        self.assertEqual((type(len(desk)), len(desk)), (int, len(track)))

    def refused(self, error, call, *args, **named_args):
        """The call is refused, and the desk that it is called at stays as it was."""
        desk = getattr(call, "__self__", None)
        before = told(desk) if isinstance(desk, Desk) else None
        found = Case.refused(self, error, call, *args, **named_args)
        if before is not None:
            self.assertEqual(told(desk), before)
        return found


class New(DeskCase):

    def test_by_position_and_by_name(self):
        for track in (Track(1), Track(12), ONE, TWO, Track(12, EIGHT), Track(MOST, (A,))):
            for desk in (Desk(track), Desk(track=track)):
                self.stands(desk, track)
                self.assertEqual((type(desk.changes), desk.changes), (int, 0))
                self.assertIs(desk.track, track)

    def test_no_tracks(self):
        for value in NO_TRACKS:
            with self.subTest(repr(value)):
                self.refused_given(NotATrack, value, Desk, value)
                self.refused_given(NotATrack, value, Desk, track=value)

    def test_a_desk_is_no_track(self):
        desk = Desk(ONE)
        self.refused_given(NotATrack, desk, Desk, desk)

    def test_equal_to_itself_alone(self):
        one, two = Desk(ONE), Desk(ONE)
        for desk, other in ((one, two), (two, one), (one, ONE), (one, None), (one, 0), (one, str(ONE)),
                            (one, Everything()),
                            (one, ()), (one, Desk), (one, [one])):
            self.assertIs(desk == desk, True)
            self.assertIs(desk != desk, False)
            self.assertIs(desk == other, False)
            self.assertIs(desk != other, True)
        one.put(B)
        self.assertIs(one == one, True)

    def test_each_desk_is_true(self):
        for desk in (Desk(Track(12)), Desk(ONE)):
            self.assertIs(bool(desk), True)

    def test_two_desks_do_not_touch_each_other(self):
        one, two = Desk(ONE), Desk(ONE)
        one.put(B)
        one.promise(HEARD)
        self.stands(two, ONE)
        self.assertEqual(two.changes, 0)
        self.stands(one, TWO, (HEARD,))

    def test_the_file(self):
        self.assertEqual(Desk.__module__, desks.__name__)
        for name in ("put", "take", "move", "change", "promise", "lift", "undo", "trial", "tried", "__len__", "track",
                     "promises", "changes"):
            self.assertIn(name, vars(Desk))


class Done(DeskCase):

    def test_put(self):
        for args, named_args in (((B,), {}), ((B, None), {}), ((B, 1), {}), ((), {"one_pass": B}),
                                 ((), {"place": 1, "one_pass": B}), ((B,), {"place": None})):
            desk = Desk(ONE)
            self.does(desk, desk.put, *args, **named_args)
            self.stands(desk, TWO)
        for place in range(3):
            desk = Desk(TWO)
            self.does(desk, desk.put, C, place)
            self.stands(desk, TWO.put(C, place))

    def test_take(self):
        for name in "abc":
            desk, other = Desk(Track(12, (A, B, C))), Desk(Track(12, (A, B, C)))
            self.does(desk, desk.take, name)
            self.does(other, other.take, name=name)
            self.stands(desk, Track(12, (A, B, C)).without(name))
            self.stands(other, desk.track)

    def test_move(self):
        track = Track(12, (A, B, C))
        for name in "abc":
            for place in range(3):
                desk, other = Desk(track), Desk(track)
                self.does(desk, desk.move, name, place)
                self.does(other, other.move, place=place, name=name)
                self.stands(desk, track.moved(name, place))
                self.stands(other, desk.track)

    def test_change(self):
        for change in (("a", "mode", "trim"), ("a", "from", 0), ("b", "to", 12), ("b", "touches", ()),
                       ("a", "glide", 100),
                       ("b", "tail", "on"), ("a", "glide", 3)):
            desk, other = Desk(TWO), Desk(TWO)
            self.does(desk, desk.change, change)
            self.does(other, other.change, change=change)
            self.stands(desk, TWO.changed(change))
            self.stands(other, desk.track)

    def test_promise(self):
        desk = Desk(ONE)
        self.does(desk, desk.promise, HEARD)
        self.does(desk, desk.promise, wish=CALM)
        self.does(desk, desk.promise, HEARD)
        self.stands(desk, ONE, (HEARD, CALM, HEARD))
        self.assertIs(desk.promises[0], HEARD)

    def test_each_wish(self):
        for wish in WISHES:
            desk = Desk(TWO)
            if holds(TWO, wish):
                self.does(desk, desk.promise, wish)
                self.stands(desk, TWO, (wish,))
            else:
                self.refused_index(Broken, 0, desk.promise, wish)

    def test_lift(self):
        for index in range(3):
            desk, other = Desk(ONE), Desk(ONE)
            promises = [HEARD, CALM, KEPT]
            for wish in promises:
                desk.promise(wish)
                other.promise(wish)
            del promises[index]
            self.does(desk, desk.lift, index)
            self.does(other, other.lift, index=index)
            self.stands(desk, ONE, promises)
            self.stands(other, ONE, promises)

    def test_what_is_lifted_need_not_hold(self):
        desk = Desk(ONE)
        desk.promise(KEPT)
        desk.promise(HEARD)
        self.refused_index(Broken, 1, desk.take, "a")
        desk.lift(1)
        self.does(desk, desk.take, "a")
        self.stands(desk, Track(12), (KEPT,))

    def test_changes_behind_which_nothing_is_different(self):
        desk = Desk(TWO)
        self.does(desk, desk.move, "a", 0)
        self.does(desk, desk.change, ("a", "glide", 3))
        self.stands(desk, TWO)
        self.assertEqual(desk.changes, 2)
        desk.undo()
        self.assertEqual(desk.changes, 1)
        desk.undo()
        self.assertEqual(desk.changes, 0)
        self.stands(desk, TWO)

    def test_promises_hold_for_the_track_behind(self):
        desk = Desk(ONE)
        desk.promise(HEARD)
        self.does(desk, desk.put, B)
        self.does(desk, desk.move, "a", 1)
        self.does(desk, desk.change, ("b", "mode", "touch"))
        self.stands(desk, Track(12, (B, A)).changed(("b", "mode", "touch")), (HEARD,))

    def test_the_track_that_was_passed_stays(self):
        text = str(ONE)
        desk = Desk(ONE)
        desk.put(B)
        desk.change(("a", "glide", 9))
        self.assertEqual(str(ONE), text)


class Refusing(DeskCase):

    def test_put(self):
        desk = Desk(ONE)
        desk.promise(HEARD)
        for wrong in WRONG + (A, a_pass(glide=7)):
            with self.subTest(repr(wrong)):
                self.refused_given(InvalidPass, wrong, desk.put, wrong)
                self.refused_given(InvalidPass, wrong, desk.put, one_pass=wrong, place="x")
        for place in (-1, 2, 10 ** 12) + NO_INTEGERS[1:]:
            with self.subTest(repr(place)):
                self.refused_given(InvalidPlace, place, desk.put, B, place)
                self.refused_given(InvalidPlace, place, desk.put, OVER, place=place)
        self.refused_index(Broken, 0, desk.put, OVER)
        self.refused_index(Broken, 0, desk.put, place=1, one_pass=OVER)
        self.refused_index(Broken, 0, desk.put, OVER, None)

    def test_a_ninth_pass(self):
        desk = Desk(Track(12, EIGHT))
        ninth = ("i",) + OVER[1:]
        desk.promise(("heard", "h", 3, 5))
        self.assertEqual(self.refused(TooMany, desk.put, ninth).most, 8)
        self.assertEqual(self.refused(TooMany, desk.put, ninth, 0).most, 8)
        self.refused_given(InvalidPlace, 9, desk.put, ninth, 9)
        self.refused_given(InvalidPass, OVER, desk.put, OVER, 9)

    def test_take(self):
        desk = Desk(ONE)
        desk.promise(HEARD)
        for name in NO_NAMES:
            with self.subTest(repr(name)):
                self.refused_given(UnknownName, name, desk.take, name)
                self.refused_given(UnknownName, name, desk.take, name=name)
        self.refused_index(Broken, 0, desk.take, "a")
        self.refused_index(Broken, 0, desk.take, name="a")

    def test_move(self):
        desk = Desk(Track(12, (A, OVER)).moved("g", 0))
        desk.promise(CALM)
        desk.promise(HEARD)
        for name in NO_NAMES:
            with self.subTest(repr(name)):
                self.refused_given(UnknownName, name, desk.move, name, 0)
                self.refused_given(UnknownName, name, desk.move, place="x", name=name)
        for place in (-1, 2, 3, 10 ** 12) + NO_INTEGERS:
            with self.subTest(repr(place)):
                self.refused_given(InvalidPlace, place, desk.move, "g", place)
                self.refused_given(InvalidPlace, place, desk.move, place=place, name="g")
        self.refused_index(Broken, 1, desk.move, "g", 1)
        self.refused_index(Broken, 1, desk.move, place=0, name="a")

    def test_change(self):
        desk = Desk(ONE)
        desk.promise(HEARD)
        for change in (None, (), "glide", ["a", "glide", 1], ("a", "glide"), ("x", "glide", 1), ("a", "name", "b"),
                       ("a", "glide", 101), ("a", "glide", True), ("a", "to", 4), ("a", "mode", "old"),
                       ("a", "touches", [(3, 5)]), ("a", "tail", None), ("a", "from", 99), Everything()):
            with self.subTest(repr(change)):
                self.refused_given(InvalidChange, change, desk.change, change)
                self.refused_given(InvalidChange, change, desk.change, change=change)
        self.refused_index(Broken, 0, desk.change, ("a", "touches", ((4, 5),)))
        self.refused_index(Broken, 0, desk.change, change=("a", "touches", ()))

    def test_promise(self):
        desk = Desk(TWO)
        desk.promise(CALM)
        for value in NO_WISHES:
            with self.subTest(repr(value)):
                self.refused_given(InvalidWish, value, desk.promise, value)
                self.refused_given(InvalidWish, value, desk.promise, wish=value)
        for wish in (("kept", 0, 4), ("heard", "x", 0, 1), ("heard", "old", 0, 1), ("calm", (99, 100)),
                     ("like", str(ONE)), ("like", "track 11"), ("flat", 5, 7)):
            with self.subTest(wish):
                self.refused_index(Broken, 1, desk.promise, wish)
                self.refused_index(Broken, 1, desk.promise, wish=wish)
        self.refused_index(Broken, 0, Desk(TWO).promise, ("kept", 0, 4))

    def test_lift(self):
        desk = Desk(ONE)
        for index in (0, 1, -1) + NO_INTEGERS:
            self.refused_given(InvalidIndex, index, desk.lift, index)
        desk.promise(HEARD)
        desk.promise(CALM)
        for index in (2, 3, -1, -2, 10 ** 39, -10 ** 39) + NO_INTEGERS:
            with self.subTest(repr(index)):
                self.refused_given(InvalidIndex, index, desk.lift, index)
                self.refused_given(InvalidIndex, index, desk.lift, index=index)

    def test_the_first_promise_that_would_not_hold(self):
        desk = Desk(TWO)
        for wish in (CALM, ("heard", "b", 6, 7), HEARD, ("kept", 0, 3), ("heard", "b", 6, 7)):
            desk.promise(wish)
        self.refused_index(Broken, 1, desk.take, "b")
        self.refused_index(Broken, 2, desk.take, "a")
        self.refused_index(Broken, 1, desk.put, ("z", "latch", 0, 12, ((0, 1),), 0, "stop"))
        self.refused_index(Broken, 2, desk.put, ("z", "write", 2, 6, (), 0, "stop"))
        self.refused_index(Broken, 3, desk.put, ("z", "trim", 2, 6, ((2, 3),), 0, "stop"))
        self.refused_index(Broken, 1, desk.change, ("b", "touches", ()))
        self.refused_index(Broken, 3, desk.change, ("a", "touches", ((2, 5),)))
        desk.lift(1)
        self.refused_index(Broken, 3, desk.take, "b")
        self.refused_index(Broken, 1, desk.take, "a")

    def test_a_promise_to_be_like_a_track(self):
        desk = Desk(ONE)
        desk.promise(("like", str(ONE)))
        self.refused_index(Broken, 0, desk.put, B)
        self.does(desk, desk.put, ("n", "latch", 0, 9, (), 4, "on"))
        self.refused_index(Broken, 0, desk.change, ("n", "mode", "write"))

    def test_what_is_wrong_with_the_call_comes_ahead_of_broken(self):
        desk = Desk(ONE)
        desk.promise(HEARD)
        self.refused_given(InvalidPass, A, desk.put, A, 0)
        self.refused_given(InvalidPlace, 7, desk.put, OVER, 7)
        self.refused_given(UnknownName, "g", desk.take, "g")
        self.refused_given(InvalidPlace, 1, desk.move, "a", 1)
        self.refused_given(InvalidChange, ("a", "to", 3), desk.change, ("a", "to", 3))

    def test_base_classes(self):
        desk = Desk(ONE)
        self.assertIsInstance(self.refused(NothingToUndo, desk.undo), errors.NoAnswer)
        self.assertIsInstance(self.refused(Broken, desk.promise, ("kept", 0, 12)), errors.NoAnswer)
        self.assertIsInstance(self.refused(InvalidIndex, desk.lift, 0), errors.BadValue)


class Undone(DeskCase):

    def test_nothing_to_undo(self):
        desk = Desk(ONE)
        self.refused(NothingToUndo, desk.undo)
        desk.put(B)
        self.assertIsNone(desk.undo())
        self.refused(NothingToUndo, desk.undo)
        self.stands(desk, ONE)

    def test_each_kind_of_change_to_the_beginning(self):
        desk = Desk(ONE)
        calls = ((desk.put, B), (desk.promise, HEARD), (desk.move, "a", 1), (desk.promise, CALM), (desk.put, C, 0),
                 (desk.change, ("b", "glide", 5)), (desk.lift, 0), (desk.take, "b"), (desk.lift, 0), (desk.take, "a"),
                 (desk.put, D), (desk.promise, CALM))
        before = []
        for call, *args in calls:
            before.append(told(desk))
            self.does(desk, call, *args)
        for wanted in before[::-1]:
            self.assertIsNone(desk.undo())
            self.assertEqual(told(desk), wanted)
        self.refused(NothingToUndo, desk.undo)

    def test_changes_behind_an_undo(self):
        desk = Desk(ONE)
        desk.put(B)
        desk.put(C)
        desk.undo()
        self.does(desk, desk.put, D)
        self.stands(desk, TWO.put(D))
        self.assertEqual(desk.changes, 2)
        desk.undo()
        self.stands(desk, TWO)
        desk.undo()
        self.stands(desk, ONE)
        self.refused(NothingToUndo, desk.undo)

    def test_a_lifted_promise_comes_back_and_counts(self):
        desk = Desk(ONE)
        desk.promise(HEARD)
        desk.lift(0)
        desk.undo()
        self.stands(desk, ONE, (HEARD,))
        self.refused_index(Broken, 0, desk.take, "a")

    def test_an_undone_promise_counts_no_more(self):
        desk = Desk(ONE)
        desk.promise(HEARD)
        desk.undo()
        self.does(desk, desk.take, "a")

    def test_what_is_refused_cannot_be_undone(self):
        desk = Desk(ONE)
        desk.put(B)
        desk.promise(HEARD)
        self.refused_index(Broken, 0, desk.take, "a")
        desk.undo()
        self.stands(desk, TWO)

    def test_many_changes(self):
        desk = Desk(ONE)
        for k in range(2000):
            desk.change(("a", "glide", k % 101))
        self.assertEqual(desk.changes, 2000)
        for k in range(1999, 0, -1):
            desk.undo()
            self.assertEqual((desk.changes, desk.track["a"][5]), (k, (k - 1) % 101))
        desk.undo()
        self.stands(desk, ONE)


class Live(DeskCase):

    def test_long_rows_of_changes(self):
        dice = Dice(601)
        done = refused = 0
        for track in any_tracks(30, 602, length=9, many=3):
            desk = Desk(track)
            for _ in range(25):
                before, many = told(desk), desk.changes
                try:
                    self.any_call(dice, desk)
                    done += 1
                    self.assertEqual(desk.changes, many + 1)
                except (errors.BadValue, errors.BadName, errors.NoAnswer) as error:
                    refused += 1
                    self.assertEqual(told(desk), before)
                    self.is_first_broken(error, desk)
                for wish in desk.promises:
                    self.assertTrue(plain_holds(desk.track, wish), (str(desk.track), wish))
        self.assertGreater(min(done, refused), 100)

    def any_call(self, dice, desk):
        self.wanted = None
        way = dice.upto(6)
        if way < 2:
            wish = any_wish(dice, desk.track, [any_change(dice, desk.track)])
            self.wanted = desk.track, desk.promises + (wish,)
            return desk.promise(wish)
        if way == 2 and desk.promises:
            return desk.lift(dice.upto(len(desk.promises) - 1))
        if way == 3:
            one = any_pass(dice, dice.one_of("wxyz"), desk.track.length)
            if one[0] not in desk.track and len(desk) < 8:
                self.wanted = desk.track.put(one, 0), desk.promises
            return desk.put(one, 0)
        name = dice.one_of((*desk.track.names, "none"))
        if way == 4 and name != "none":
            self.wanted = desk.track.without(name), desk.promises
        if way == 4:
            return desk.take(name)
        change = (name, "glide", dice.upto(5)) if way == 5 else (name, "touches", ())
        if name != "none":
            self.wanted = desk.track.changed(change), desk.promises
        return desk.change(change)

    def is_first_broken(self, error, desk):
        if self.wanted is None:
            self.assertNotIsInstance(error, Broken)
            return
        self.assertIs(type(error), Broken)
        track, promises = self.wanted
        self.assertEqual([plain_holds(track, wish) for wish in promises[:error.index + 1]],
                         [True] * error.index + [False])


class Great(DeskCase):

    def test_a_great_track(self):
        half = 5 * 10 ** 11
        desk = Desk(Track(MOST, (("a", "touch", 3, MOST, ((4, half),), 100, "stop"),)))
        desk.promise(("heard", "a", 4, half))
        desk.promise(("kept", half + 100, MOST))
        one = ("b", "trim", 0, MOST, ((10, 20),), 100, "stop")
        self.does(desk, desk.put, one, 0)
        self.does(desk, desk.move, "a", 0)
        self.refused_index(Broken, 1, desk.change, ("b", "touches", ((half, half + 1),)))
        self.refused_index(Broken, 0, desk.put, ("c", "latch", half - 5, half - 4, ((half - 5, half - 4),), 0, "stop"))


if __name__ == "__main__":
    unittest.main()

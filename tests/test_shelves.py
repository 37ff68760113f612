"""Shelf: each of its methods, done and refused; its trials stand in test_trials."""

import unittest

from tests.plain import Dice, any_change, any_track
from tests.plain_wishes import any_wish, plain_holds
from tests.samples import A, B, C, NO_TRACKS, WRONG_NAMES, Case, Everything
from tests.wish_samples import BEYOND, LIMITS, MOST, NEVER_WISHES, NO_WISH_NAMES, TEXTS, WISHES, with_stretches
from touchpasses import errors, shelves
from touchpasses.desks import Desk
from touchpasses.errors import Broken, InUse, InvalidIndex, InvalidName, InvalidWish, NotATrack, NothingToUndo
from touchpasses.errors import UnknownName
from touchpasses.mends import holds
from touchpasses.shelves import Shelf
from touchpasses.tracks import Track

ONE, TWO = Track(12, (A,)), Track(12, (A, B))
HEARD, KEPT, CALM = ("heard", "a", 3, 5), ("kept", 8, 12), ("calm", (1, 1))
NO_INTEGERS = (None, True, False, "", "0", b"0", (), (0,), [], [0], {}, {0: 0}, object(), Everything())
# None of these is a name under which there is something on a shelf with one, two, three.
UNKNOWN = ("", "x", "on", "ones", "One", "one ", "old", None, True, False, 0, 1, (), ("one",), ["one"], [], {},
           {"one": 1},
           b"one", object(), Everything(), ONE, [["one"]], ("one", ["two"]))


def told(shelf):
    """All that a shelf tells of itself."""
    return (shelf.names, tuple(str(shelf[name]) for name in shelf.names), shelf.wishes, shelf.changes, len(shelf))


def filled(*wishes):
    """A shelf with tracks of 12, 12 and 9 ticks, and these wishes."""
    shelf = Shelf()
    shelf["one"] = ONE
    shelf["two"] = TWO
    shelf["three"] = Track(9)
    for wish in wishes:
        shelf.wish(wish)
    return shelf


class ShelfCase(Case):

    def does(self, shelf, call, *args, **named_args):
        """The call is one change more and returns None."""
        many = shelf.changes
        self.assertIsNone(call(*args, **named_args))
        self.assertEqual((type(shelf.changes), shelf.changes), (int, many + 1))

    def put(self, shelf, name, track):
        many = shelf.changes
        shelf[name] = track
        self.assertEqual(shelf.changes, many + 1)

    def stands(self, shelf, tracks, wishes=()):
        names = tuple(sorted(tracks))
        self.assertEqual((type(shelf.names), shelf.names), (tuple, names))
        self.assertEqual((type(len(shelf)), len(shelf)), (int, len(names)))
        self.assertEqual((type(shelf.wishes), shelf.wishes), (tuple, tuple(wishes)))
        for name, track in tracks.items():
            self.assertIs(shelf[name], track)
            self.assertIs(name in shelf, True)

    def refused(self, error, call, *args, **named_args):
        """The call is refused, and the shelf that it is called at stays as it was."""
        shelf = getattr(call, "__self__", None)
        before = told(shelf) if isinstance(shelf, Shelf) else None
        found = Case.refused(self, error, call, *args, **named_args)
        if before is not None:
            self.assertEqual(told(shelf), before)
        return found

    def put_refused(self, error, shelf, name, track):
        def put():
            shelf[name] = track
        before = told(shelf)
        found = self.refused(error, put)
        self.assertEqual(told(shelf), before)
        return found

    def get_refused(self, shelf, name):
        def get():
            return shelf[name]
        self.refused_given(UnknownName, name, get)


class New(ShelfCase):

    def test_at_first_empty(self):
        shelf = Shelf()
        self.stands(shelf, {})
        self.assertEqual((type(shelf.changes), shelf.changes), (int, 0))
        self.refused(NothingToUndo, shelf.undo)

    def test_each_shelf_is_true(self):
        self.assertIs(bool(Shelf()), True)
        self.assertIs(bool(filled()), True)

    def test_equal_to_itself_alone(self):
        one, two = Shelf(), Shelf()
        for other in (two, None, 0, (), {}, ONE, Desk(ONE), Everything(), Shelf, "one", [one]):
            self.assertIs(one == one, True)
            self.assertIs(one != one, False)
            self.assertIs(one == other, False)
            self.assertIs(one != other, True)

    def test_two_shelves_do_not_touch_each_other(self):
        one, two = Shelf(), Shelf()
        one["a"] = ONE
        self.stands(two, {})
        two["a"] = TWO
        two.wish(("a", HEARD))
        self.stands(one, {"a": ONE})
        self.stands(two, {"a": TWO}, (("a", HEARD),))
        self.assertEqual((one.changes, two.changes), (1, 2))
        one.undo()
        self.stands(two, {"a": TWO}, (("a", HEARD),))

    def test_the_file(self):
        self.assertEqual(Shelf.__module__, shelves.__name__)
        for name in ("__setitem__", "__getitem__", "__contains__", "__len__", "remove", "wish", "lift", "undo", "trial",
                     "tried", "names", "wishes", "changes"):
            self.assertIn(name, vars(Shelf))


class Tracks(ShelfCase):

    def test_put_under_new_names(self):
        shelf, tracks = Shelf(), {}
        for name, track in (("z", ONE), ("a", TWO), ("old", Track(1)), ("abcdefgh", ONE), ("a1", Track(MOST)),
                            ("m", ONE)):
            self.put(shelf, name, track)
            tracks[name] = track
            self.stands(shelf, tracks)

    def test_put_in_the_place_of_another_one(self):
        shelf = filled()
        self.put(shelf, "one", TWO)
        self.put(shelf, "three", Track(99))
        self.assertEqual((shelf.names, str(shelf["one"]), shelf["three"].length),
                         (("one", "three", "two"), str(TWO), 99))
        self.put(shelf, "one", TWO)
        self.assertEqual(shelf.changes, 6)
        shelf.undo()
        shelf.undo()
        shelf.undo()
        self.assertEqual((str(shelf["one"]), shelf["three"].length), (str(ONE), 9))

    def test_wrong_names(self):
        shelf = filled(("one", HEARD))
        for name in WRONG_NAMES + (Everything(), object(), ONE):
            if name != "old" or not isinstance(name, str):
                with self.subTest(repr(name)):
                    self.assertIs(self.put_refused(InvalidName, shelf, name, ONE).given, name)
                    self.assertIs(self.put_refused(InvalidName, shelf, name, None).given, name)

    def test_no_tracks(self):
        shelf = filled(("one", HEARD))
        for value in NO_TRACKS:
            for name in ("one", "new"):
                with self.subTest(repr(value)):
                    self.assertIs(self.put_refused(NotATrack, shelf, name, value).given, value)

    def test_look_up_what_is_not_there(self):
        for shelf in (Shelf(), filled()):
            for name in UNKNOWN:
                with self.subTest(repr(name)):
                    self.get_refused(shelf, name)
                    self.assertIs(name in shelf, False)
        self.get_refused(Shelf(), "one")

    def test_remove(self):
        for name in ("one", "two", "three"):
            shelf, other = filled(), filled()
            tracks = {one: shelf[one] for one in shelf.names if one != name}
            self.does(shelf, shelf.remove, name)
            self.does(other, other.remove, name=name)
            self.stands(shelf, tracks)
            self.assertEqual(told(shelf), told(other))
            self.get_refused(shelf, name)
            self.assertIs(name in shelf, False)
            self.refused_given(UnknownName, name, shelf.remove, name)

    def test_remove_what_is_not_there(self):
        for shelf in (Shelf(), filled(("one", HEARD))):
            for name in UNKNOWN:
                with self.subTest(repr(name)):
                    self.refused_given(UnknownName, name, shelf.remove, name)
                    self.refused_given(UnknownName, name, shelf.remove, name=name)

    def test_in_use(self):
        shelf = filled(("two", ("kept", 10, 12)), ("alike", "three", "three"), ("one", ("heard", "a", 3, 4)),
                       ("alike", "one", "one"), ("two", HEARD))
        for name, index in (("two", 0), ("three", 1), ("one", 2)):
            self.refused_index(InUse, index, shelf.remove, name)
            self.refused_index(InUse, index, shelf.remove, name=name)
        shelf.lift(2)
        self.refused_index(InUse, 2, shelf.remove, "one")
        shelf.lift(0)
        self.refused_index(InUse, 2, shelf.remove, "two")
        shelf.lift(1)
        self.does(shelf, shelf.remove, "one")

    def test_each_name_of_alike_is_in_use(self):
        shelf = filled()
        shelf["four"] = TWO
        shelf.wish(("alike", "two", "four"))
        self.refused_index(InUse, 0, shelf.remove, "two")
        self.refused_index(InUse, 0, shelf.remove, "four")
        self.does(shelf, shelf.remove, "one")

    def test_the_name_of_a_pass_or_a_word_is_not_in_use(self):
        shelf = Shelf()
        for name in ("a", "alike", "heard", "kept", "t"):
            shelf[name] = ONE
        shelf.wish(("t", HEARD))
        shelf.wish(("alike", "t", "t"))
        shelf.wish(("t", ("kept", 0, 2)))
        for name in ("a", "alike", "heard", "kept"):
            self.does(shelf, shelf.remove, name)

    def test_the_order_of_the_errors(self):
        shelf = filled(("one", HEARD))
        self.assertIs(self.put_refused(InvalidName, shelf, None, None).given, None)
        self.assertIs(self.put_refused(NotATrack, shelf, "one", None).given, None)
        self.assertEqual(self.put_refused(Broken, shelf, "one", Track(12)).index, 0)
        self.refused_given(UnknownName, "four", shelf.remove, "four")


class Wishes(ShelfCase):

    def test_each_form(self):
        shelf, wishes = filled(), []
        for wish in (("one", HEARD), ("one", KEPT), ("two", CALM), ("two", ("flat", 6, 10)),
                     ("one", ("like", str(ONE))),
                     ("alike", "one", "one"), ("alike", "three", "three"), ("one", HEARD), ("three", ("kept", 0, 9))):
            self.does(shelf, shelf.wish, wish)
            wishes.append(wish)
            self.stands(shelf, {"one": ONE, "two": TWO, "three": shelf["three"]}, wishes)
            self.assertIs(shelf.wishes[-1], wish)
        self.does(shelf, shelf.wish, wish=("one", ("kept", 0, 1)))

    def test_alike(self):
        shelf = filled()
        shelf["four"] = ONE.put(("n", "latch", 0, 9, (), 4, "on"), 0)
        self.does(shelf, shelf.wish, ("alike", "one", "four"))
        self.does(shelf, shelf.wish, ("alike", "four", "one"))
        for wish in (("alike", "one", "two"), ("alike", "two", "four"), ("alike", "one", "three"),
                     ("alike", "three", "one")):
            self.refused_index(Broken, 2, shelf.wish, wish)
            self.refused_index(Broken, 2, shelf.wish, wish=wish)

    def test_a_track_that_is_called_alike(self):
        shelf = Shelf()
        shelf["alike"] = ONE
        self.does(shelf, shelf.wish, ("alike", HEARD))
        self.does(shelf, shelf.wish, ("alike", "alike", "alike"))
        self.refused_index(InUse, 0, shelf.remove, "alike")

    def test_no_wishes(self):
        shelf = filled(("one", HEARD))
        for inner in NEVER_WISHES:
            with self.subTest(repr(inner)):
                self.refused_given(InvalidWish, wish := ("one", inner), shelf.wish, wish)
                self.refused_given(InvalidWish, wish := ("none", inner), shelf.wish, wish)
        for name in NO_WISH_NAMES:
            for wish in ((name, HEARD), ("alike", name, "one"), ("alike", "one", name), ("alike", name, name)):
                with self.subTest(repr(wish)):
                    self.refused_given(InvalidWish, wish, shelf.wish, wish)
                    self.refused_given(InvalidWish, wish, shelf.wish, wish=wish)

    def test_no_tuples_of_the_two_forms(self):
        shelf = filled()
        for wish in (None, True, 0, "", "alike", "alike one two", b"a", [], {}, (), ("one",), ("alike",),
                     ("alike", "one"),
                     ("one", "two"), ("one", HEARD, KEPT), ("one", HEARD, None), ("alike", "one", "two", "one"),
                     ["one", HEARD], ["alike", "one", "one"], ("one", list(HEARD)), ("Alike", "one", "one"),
                     ("like", "one", "one"), ("one", "one", "one"), ("one", "alike", "one"), (HEARD, "one"),
                     HEARD, KEPT, CALM, ("heard", "one", "one"), (None, "one", "one"), (["alike"], "one", "one"),
                     (Everything(), "one", "one"), (Everything(), HEARD), Everything(), ONE, A, object(),
                     (("one", HEARD),), ("one", ("one", HEARD)), ("one", ("alike", "one", "one")), {"one": HEARD},
                     ("one", "heard", "a", 3, 5)):
            with self.subTest(repr(wish)):
                self.refused_given(InvalidWish, wish, shelf.wish, wish)
                self.refused_given(InvalidWish, wish, shelf.wish, wish=wish)

    def test_any_name_stretch_limit_and_text_is_a_wish(self):
        """Whether there is such a tick or pass only tells whether the wish holds."""
        for inner in WISHES + with_stretches(BEYOND) + tuple(("calm", limit) for limit in LIMITS) + tuple(
                ("like", text) for text in TEXTS) + (("heard", "old", 0, MOST), ("kept", 0, MOST)):
            shelf = filled()
            if inner in WISHES and holds(ONE, inner):
                self.does(shelf, shelf.wish, ("one", inner))
            else:
                self.refused_index(Broken, 0, shelf.wish, ("one", inner))
            self.refused_given(UnknownName, "none", shelf.wish, ("none", inner))

    def test_a_stretch_beyond_the_length(self):
        shelf = filled()
        shelf["great"] = Track(MOST)
        for stretch in BEYOND:
            self.refused_index(Broken, 0, shelf.wish, ("one", ("kept", *stretch)))
            self.does(shelf, shelf.wish, ("great", ("kept", *stretch)))
            shelf.undo()
        self.does(shelf, shelf.wish, ("three", ("kept", 0, 9)))
        self.refused_index(Broken, 1, shelf.wish, ("three", ("kept", 0, 10)))
        self.assertEqual(self.put_refused(Broken, shelf, "three", Track(8)).index, 0)
        self.put(shelf, "three", Track(10))

    def test_unknown_names(self):
        shelf = filled(("one", HEARD))
        for wish, name in ((("x", HEARD), "x"), (("x", ("kept", 0, 12)), "x"), (("alike", "x", "one"), "x"),
                           (("alike", "one", "x"), "x"), (("alike", "x", "y"), "x"), (("alike", "y", "x"), "y"),
                           (("alike", "x", "x"), "x"), (("old", HEARD), "old"), (("alike", "alike", "one"), "alike")):
            self.assertEqual(self.refused(UnknownName, shelf.wish, wish).given, name)
            self.assertEqual(self.refused(UnknownName, shelf.wish, wish=wish).given, name)

    def test_the_order_of_the_errors(self):
        shelf = filled(("one", HEARD))
        for wish in (("x", None), ("alike", "x", None), ("alike", None, "x"), ("x", ("kept", 5, 3))):
            self.refused_given(InvalidWish, wish, shelf.wish, wish)
        self.assertEqual(self.refused(UnknownName, shelf.wish, ("x", ("kept", 0, MOST))).given, "x")
        self.refused_index(Broken, 1, shelf.wish, ("one", ("kept", 0, 12)))

    def test_lift(self):
        wishes = [("one", HEARD), ("two", CALM), ("alike", "one", "one")]
        tracks = {"one": ONE, "two": TWO}
        for index in range(3):
            shelf, other = filled(*wishes), filled(*wishes)
            left = wishes[:index] + wishes[index + 1:]
            self.does(shelf, shelf.lift, index)
            self.does(other, other.lift, index=index)
            self.stands(shelf, {**tracks, "three": shelf["three"]}, left)
            self.stands(other, {**tracks, "three": other["three"]}, left)

    def test_no_index(self):
        empty, shelf = Shelf(), filled(("one", HEARD), ("two", CALM))
        for index in (2, 3, -1, -2, 10 ** 39, -10 ** 39) + NO_INTEGERS:
            with self.subTest(repr(index)):
                self.refused_given(InvalidIndex, index, shelf.lift, index)
                self.refused_given(InvalidIndex, index, shelf.lift, index=index)
                self.refused_given(InvalidIndex, index, empty.lift, index)
        self.refused_given(InvalidIndex, 0, empty.lift, 0)


class Breaking(ShelfCase):

    def test_the_first_wish_that_would_not_hold(self):
        shelf = filled(("two", ("heard", "b", 6, 7)), ("one", ("kept", 0, 3)), ("one", HEARD), ("alike", "one", "one"),
                       ("three", ("kept", 0, 9)))
        for name, track, index in (("two", ONE, 0), ("one", Track(12), 2),
                                   ("one", TWO.changed(("a", "touches", ((2, 5),))), 1),
                                   ("one", Track(12, (C,)), 1), ("three", Track(8), 4), ("two", Track(6), 0)):
            self.assertEqual(self.put_refused(Broken, shelf, name, track).index, index)
        for name, track in (("one", TWO), ("two", Track(12, (B,))), ("three", Track(10)), ("four", Track(1))):
            self.put(shelf, name, track)

    def test_both_sides_of_alike(self):
        for pair in (("one", "four"), ("four", "one")):
            shelf = filled()
            shelf["four"] = ONE
            shelf.wish(("alike", *pair))
            for name in pair:
                self.assertEqual(self.put_refused(Broken, shelf, name, TWO).index, 0)
                self.assertEqual(self.put_refused(Broken, shelf, name, Track(13, (A,))).index, 0)
                self.put(shelf, name, ONE.put(("n", "latch", 0, 9, (), 4, "on")))

    def test_the_index_counts_all_wishes(self):
        shelf = filled(("two", CALM), ("two", CALM), ("three", CALM), ("one", HEARD), ("two", CALM))
        self.assertEqual(self.put_refused(Broken, shelf, "one", Track(12)).index, 3)
        self.refused_index(Broken, 5, shelf.wish, ("one", ("kept", 0, 12)))
        shelf.lift(1)
        self.assertEqual(self.put_refused(Broken, shelf, "one", Track(12)).index, 2)
        shelf.lift(2)
        self.put(shelf, "one", Track(12))

    def test_long_rows_of_changes(self):
        dice = Dice(701)
        done = broken = 0
        for _ in range(25):
            shelf = Shelf()
            for _ in range(30):
                before, many = told(shelf), shelf.changes
                try:
                    self.any_call(dice, shelf)
                    done += 1
                    self.assertEqual(shelf.changes, many + 1)
                except (Broken, InUse, UnknownName) as error:
                    broken += isinstance(error, Broken)
                    self.assertEqual(told(shelf), before)
                for wish in shelf.wishes:
                    self.assertTrue(self.is_met(shelf, wish), wish)
        self.assertGreater(min(done, broken), 60)

    def is_met(self, shelf, wish):
        if len(wish) == 3:
            return plain_holds(shelf[wish[1]], ("like", str(shelf[wish[2]])))
        track, inner = shelf[wish[0]], wish[1]
        too_long = inner[0] not in ("calm", "like") and inner[-1] > track.length
        return not too_long and plain_holds(track, inner)

    def any_call(self, dice, shelf):
        name, way = dice.one_of("abc"), dice.upto(5)
        if way < 2 or name not in shelf:
            near = name in shelf and dice.upto(2)
            shelf[name] = any_change(dice, shelf[name]) if near else any_track(dice, 8 + dice.upto(1), 2)
        elif way == 2 and shelf.wishes:
            shelf.lift(dice.upto(len(shelf.wishes) - 1))
        elif way == 3:
            shelf.wish(("alike", name, dice.one_of(shelf.names)))
        elif way == 4:
            shelf.wish((name, any_wish(dice, any_track(dice, 8 + dice.upto(1), 2), [shelf[name]])))
        else:
            shelf.remove(name)


class Undone(ShelfCase):

    def test_each_kind_of_change_to_the_beginning(self):
        shelf, before = Shelf(), []
        for call, *args in ((shelf.__setitem__, "one", ONE), (shelf.wish, ("one", HEARD)),
                            (shelf.__setitem__, "two", ONE),
                            (shelf.wish, ("alike", "one", "two")), (shelf.__setitem__, "one", ONE), (shelf.lift, 0),
                            (shelf.lift, 0), (shelf.remove, "one"), (shelf.__setitem__, "two", TWO),
                            (shelf.remove, "two")):
            before.append(told(shelf))
            self.does(shelf, call, *args)
        for wanted in before[::-1]:
            self.assertIsNone(shelf.undo())
            self.assertEqual(told(shelf), wanted)
        self.refused(NothingToUndo, shelf.undo)

    def test_what_is_undone_counts_no_more(self):
        shelf = filled(("one", HEARD))
        shelf.undo()
        self.put(shelf, "one", Track(12))
        self.does(shelf, shelf.remove, "one")

    def test_what_is_refused_cannot_be_undone(self):
        shelf = filled(("one", HEARD))
        self.put_refused(Broken, shelf, "one", Track(12))
        self.refused_index(InUse, 0, shelf.remove, "one")
        shelf.undo()
        self.assertEqual((shelf.wishes, shelf.changes), ((), 3))

    def test_base_classes(self):
        shelf = filled(("one", HEARD))
        self.assertIsInstance(self.refused(InUse, shelf.remove, "one"), errors.BadName)
        self.assertIsInstance(self.put_refused(InvalidName, shelf, "X", ONE), errors.BadValue)
        self.assertIsInstance(self.refused(NothingToUndo, Shelf().undo), errors.NoAnswer)


if __name__ == "__main__":
    unittest.main()

"""trial and tried of desks and of shelves: rows that end with an error leave nothing behind."""

import unittest

from tests.samples import A, B, C, D, Case
from touchpasses.desks import Desk
from touchpasses.errors import Broken, InvalidPass, InvalidWish, NotATrack, NothingToUndo, UnknownName
from touchpasses.shelves import Shelf
from touchpasses.tracks import Track

ONE = Track(12, (A,))
HEARD = ("heard", "a", 3, 5)


class Stop(Exception):
    """An error that is none of the package."""


def errors_of_python():
    return (Stop("x"), ValueError("x"), KeyError("x"), ZeroDivisionError(), StopIteration(), KeyboardInterrupt(),
            SystemExit(0), GeneratorExit(), RuntimeError(), AssertionError())


class DeskWays:
    """A desk that has changes, more changes for it, calls that it refuses, and all that it tells."""

    def new(self):
        desk = Desk(ONE)
        desk.promise(HEARD)
        desk.put(B)
        return desk

    def steps(self, desk):
        return ((desk.put, C), (desk.promise, ("calm", (1, 1))), (desk.move, "c", 0), (desk.lift, 0), (desk.take, "a"),
                (desk.change, ("c", "glide", 9)))

    def wrong_calls(self, desk):
        return ((InvalidPass, desk.put, None), (UnknownName, desk.take, "x"), (Broken, desk.take, "a"),
                (InvalidWish, desk.promise, 5))

    def told(self, desk):
        return desk.track, desk.promises, desk.changes, len(desk), str(desk.track)


class ShelfWays:
    """The same of shelves."""

    def new(self):
        shelf = Shelf()
        shelf["one"] = ONE
        shelf["two"] = Track(12, (A, B))
        shelf.wish(("one", HEARD))
        return shelf

    def steps(self, shelf):
        return ((shelf.__setitem__, "three", ONE), (shelf.wish, ("alike", "one", "three")), (shelf.remove, "two"),
                (shelf.lift, 1), (shelf.__setitem__, "three", Track(12)), (shelf.wish, ("three", ("kept", 0, 12))))

    def wrong_calls(self, shelf):
        return ((NotATrack, shelf.__setitem__, "one", 5), (UnknownName, shelf.remove, "x"),
                (Broken, shelf.__setitem__, "one", Track(12)), (InvalidWish, shelf.wish, 5))

    def told(self, shelf):
        tracks = [(name, str(shelf[name])) for name in shelf.names]
        return tracks, shelf.wishes, shelf.changes, len(shelf), "three" in shelf


class TrialCase(Case):
    """Each test runs for a desk and for a shelf."""

    ways = (DeskWays(), ShelfWays())

    def each(self):
        for way in self.ways:
            with self.subTest(type(way).__name__):
                yield way, way.new()

    def act(self, step):
        call, *args = step
        self.assertIsNone(call(*args))

    def act_all(self, steps):
        for step in steps:
            self.act(step)


class Ended(TrialCase):

    def test_as_gives_the_object_itself(self):
        for _, held in self.each():
            with held.trial() as given:
                self.assertIs(given, held)
            with self.assertRaises(Stop):
                with held.trial() as given:
                    self.assertIs(given, held)
                    raise Stop

    def test_rows_that_end_without_an_error_stay(self):
        for way, held in self.each():
            twin = way.new()
            with held.trial():
                self.act_all(way.steps(held))
            self.act_all(way.steps(twin))
            self.assertEqual(way.told(held), way.told(twin))
            for _ in range(twin.changes):
                held.undo()
                twin.undo()
                self.assertEqual(way.told(held), way.told(twin))

    def test_rows_that_end_with_an_error_of_python(self):
        for way, held in self.each():
            for error in errors_of_python():
                before = way.told(held)
                with self.assertRaises(type(error)) as caught:
                    with held.trial():
                        self.act_all(way.steps(held))
                        self.assertEqual(held.changes, before[2] + 6)
                        raise error
                self.assertIs(caught.exception, error)
                self.assertEqual(way.told(held), before)

    def test_rows_that_end_with_an_error_of_the_package(self):
        for way, held in self.each():
            before = way.told(held)
            for kind, call, *args in way.wrong_calls(held):
                with self.assertRaises(kind) as caught:
                    with held.trial():
                        self.act(way.steps(held)[0])
                        call(*args)
                self.assertIs(type(caught.exception), kind)
                self.assertEqual(way.told(held), before)

    def test_what_is_refused_and_caught_within_changes_nothing(self):
        for way, held in self.each():
            with held.trial():
                self.act(way.steps(held)[0])
                between = way.told(held)
                for kind, call, *args in way.wrong_calls(held):
                    self.refused(kind, call, *args)
            self.assertEqual(way.told(held), between)

    def test_rows_that_are_left_early(self):
        def leaves(way, held):
            with held.trial():
                self.act(way.steps(held)[0])
                return 5

        for way, held in self.each():
            many = held.changes
            self.assertEqual(leaves(way, held), 5)
            self.assertEqual(held.changes, many + 1)
            for step in way.steps(held)[1:3]:
                with held.trial():
                    self.act(step)
                    continue
            self.assertEqual(held.changes, many + 3)

    def test_all_changes_can_be_undone_behind_an_ended_trial(self):
        for way, held in self.each():
            before = []
            with self.assertRaises(Stop):
                with held.trial():
                    self.act_all(way.steps(held))
                    raise Stop
            for step in way.steps(held):
                before.append(way.told(held))
                self.act(step)
            for wanted in before[::-1]:
                held.undo()
                self.assertEqual(way.told(held), wanted)
            while held.changes:
                held.undo()
            self.refused(NothingToUndo, held.undo)

    def test_a_trial_without_rows_that_change(self):
        for way, held in self.each():
            before = way.told(held)
            with held.trial():
                pass
            self.assertEqual(way.told(held), before)
            with self.assertRaises(Stop):
                with held.trial():
                    raise Stop
            self.assertEqual(way.told(held), before)

    def test_a_trial_that_is_made_early_begins_with_its_rows(self):
        for way, held in self.each():
            trial = held.trial()
            self.act(way.steps(held)[0])
            before = way.told(held)
            with self.assertRaises(Stop):
                with trial:
                    self.act(way.steps(held)[1])
                    raise Stop
            self.assertEqual(way.told(held), before)

    def test_a_trial_object_serves_again(self):
        for way, held in self.each():
            trial = held.trial()
            for step in way.steps(held)[:3]:
                before = way.told(held)
                with self.assertRaises(Stop):
                    with trial:
                        self.act(step)
                        raise Stop
                self.assertEqual(way.told(held), before)
                with trial:
                    self.act(step)
                self.assertEqual(held.changes, before[2] + 1)

    def test_every_trial_is_true(self):
        for _, held in self.each():
            self.assertIs(bool(held.trial()), True)


class Within(TrialCase):

    def run_rows(self, way, held, trials, ends):
        """Three trials within each other with a change in each; those whose number is in `ends` end with an error."""
        before = []

        def rows(k):
            before.append(way.told(held))
            with trials[k]:
                self.act(way.steps(held)[k])
                if k < 2:
                    try:
                        rows(k + 1)
                    except Stop:
                        self.assertEqual(way.told(held), before[k + 1])
                if k in ends:
                    raise Stop
        try:
            rows(0)
        except Stop:
            self.assertEqual(way.told(held), before[0])
        return held.changes - before[0][2]

    def test_trials_of_their_own_and_one_trial(self):
        for way in self.ways:
            for ends, left in (((), 3), ((2,), 2), ((1,), 1), ((1, 2), 1), ((0,), 0), ((0, 2), 0), ((0, 1, 2), 0),
                               ((0, 1), 0)):
                with self.subTest(way=type(way).__name__, ends=ends):
                    held = way.new()
                    self.assertEqual(self.run_rows(way, held, [held.trial() for _ in range(3)], ends), left)
                    held = way.new()
                    self.assertEqual(self.run_rows(way, held, [held.trial()] * 3, ends), left)
                    held = way.new()
                    one, two = held.trial(), held.trial()
                    self.assertEqual(self.run_rows(way, held, [one, two, one], ends), left)

    def test_one_trial_object_within_itself(self):
        for way, held in self.each():
            trial = held.trial()
            before = way.told(held)
            with self.assertRaises(Stop):
                with trial:
                    self.act(way.steps(held)[0])
                    between = way.told(held)
                    with self.assertRaises(KeyError):
                        with trial:
                            self.act(way.steps(held)[1])
                            raise KeyError
                    self.assertEqual(way.told(held), between)
                    with trial:
                        self.act(way.steps(held)[1])
                    self.assertEqual(held.changes, between[2] + 1)
                    raise Stop
            self.assertEqual(way.told(held), before)

    def test_an_error_that_passes_through_both(self):
        for way, held in self.each():
            before, trial = way.told(held), held.trial()
            for pair in ((held.trial(), held.trial()), (trial, trial)):
                with self.assertRaises(Stop):
                    with pair[0]:
                        self.act(way.steps(held)[0])
                        with pair[1]:
                            self.act(way.steps(held)[1])
                            raise Stop
                self.assertEqual(way.told(held), before)

    def test_many_trials_within_each_other(self):
        for way, held in self.each():
            trial, before = held.trial(), way.told(held)

            def deeper(left):
                with trial:
                    self.act(way.steps(held)[0])
                    held.undo()
                    if left:
                        deeper(left - 1)
                    raise Stop
            self.assertRaises(Stop, deeper, 60)
            self.assertEqual(way.told(held), before)

    def test_trials_of_two_objects(self):
        for way, held in self.each():
            other = way.new()
            before = way.told(held)
            with self.assertRaises(Stop):
                with held.trial():
                    with other.trial():
                        self.act(way.steps(held)[0])
                        self.act(way.steps(other)[0])
                    raise Stop
            self.assertEqual(way.told(held), before)
            self.assertEqual(other.changes, before[2] + 1)


class Overlapping(TrialCase):
    """Rows of generators: the trial that began first ends first."""

    def rows(self, trial, step, error=None):
        with trial:
            self.act(step)
            yield
            if error is not None:
                raise error

    def begin(self, way, held, errors):
        """Two overlapping trials with a change in each, and what is told ahead of each of the two."""
        rows, before = [], []
        for step, error in zip(way.steps(held), errors):
            before.append(way.told(held))
            rows.append(self.rows(held.trial(), step, error))
            next(rows[-1])
        return rows, before

    def test_the_one_that_ends_last_goes_back_to_its_own_beginning(self):
        for way, held in self.each():
            rows, before = self.begin(way, held, (None, Stop()))
            self.assertRaises(StopIteration, next, rows[0])
            self.assertRaises(Stop, next, rows[1])
            self.assertEqual(way.told(held), before[1])

    def test_the_one_that_ends_first_goes_back_to_its_own_beginning(self):
        for way, held in self.each():
            rows, before = self.begin(way, held, (Stop(), None))
            self.assertRaises(Stop, next, rows[0])
            self.assertEqual(way.told(held), before[0])
            self.assertRaises(StopIteration, next, rows[1])
            self.assertEqual(way.told(held), before[0])

    def test_both_go_back(self):
        for way, held in self.each():
            rows, before = self.begin(way, held, (Stop(), Stop()))
            for one, wanted in zip(rows, before):
                self.assertRaises(Stop, next, one)
                self.assertEqual(way.told(held), wanted)


class UndoWithin(TrialCase):

    def test_undo_goes_back_behind_the_beginning(self):
        for way, held in self.each():
            before, many = way.told(held), held.changes
            with self.assertRaises(Stop):
                with held.trial():
                    self.act(way.steps(held)[0])
                    for k in range(many + 1):
                        held.undo()
                        self.assertEqual(held.changes, many - k)
                    self.refused(NothingToUndo, held.undo)
                    raise Stop
            self.assertEqual(way.told(held), before)
            for k in range(many):
                held.undo()
            self.refused(NothingToUndo, held.undo)

    def test_other_changes_behind_the_beginning(self):
        for way, held in self.each():
            before = way.told(held)
            with self.assertRaises(Stop):
                with held.trial():
                    held.undo()
                    held.undo()
                    if isinstance(held, Desk):
                        held.put(D)
                        held.put(C)
                        held.promise(("kept", 0, 1))
                    else:
                        held["five"] = ONE
                        held["six"] = Track(3)
                        held.wish(("alike", "six", "six"))
                    raise Stop
            self.assertEqual(way.told(held), before)
            twin = way.new()
            while held.changes:
                held.undo()
                twin.undo()
                self.assertEqual(way.told(held), way.told(twin))

    def test_undo_that_stays(self):
        for way, held in self.each():
            many = held.changes
            with held.trial():
                held.undo()
            self.assertEqual(held.changes, many - 1)
            with held.trial():
                self.act(way.steps(held)[0])
            self.assertEqual(held.changes, many)

    def test_an_error_of_undo_itself(self):
        for way, held in self.each():
            before = way.told(held)
            with self.assertRaises(NothingToUndo):
                with held.trial():
                    while True:
                        held.undo()
            self.assertEqual(way.told(held), before)


class Tried(TrialCase):

    def test_what_the_action_returns(self):
        for way, held in self.each():
            row = ["x"]
            for value in (None, 0, False, "x", (), row, held):
                self.assertIs(held.tried(lambda given: value), value)
                self.assertIs(held.tried(action=lambda given: value), value)

    def test_the_action_is_called_once_with_the_object(self):
        for _, held in self.each():
            seen = []
            held.tried(seen.append)
            self.assertEqual(len(seen), 1)
            self.assertIs(seen[0], held)

    def test_an_action_that_ends_well(self):
        for way, held in self.each():
            many = held.changes
            held.tried(lambda given: self.act_all(way.steps(given)))
            self.assertEqual(held.changes, many + 6)

    def test_an_action_that_ends_with_an_error(self):
        for way, held in self.each():
            before = way.told(held)
            for error in errors_of_python():
                def action(given):
                    self.act_all(way.steps(given))
                    raise error
                with self.assertRaises(type(error)) as caught:
                    held.tried(action)
                self.assertIs(caught.exception, error)
                self.assertEqual(way.told(held), before)
            for kind, call, *args in way.wrong_calls(held):
                def wrong(given):
                    self.act(way.steps(given)[0])
                    return call(*args)
                self.refused(kind, held.tried, wrong)
                self.assertEqual(way.told(held), before)

    def test_tried_within_tried(self):
        for way, held in self.each():
            many = held.changes

            def inner(given):
                self.act(way.steps(given)[1])
                raise Stop

            def outer(given):
                self.act(way.steps(given)[0])
                self.assertRaises(Stop, given.tried, inner)
                self.assertEqual(given.changes, many + 1)
                return "done"
            self.assertEqual(held.tried(outer), "done")
            self.assertEqual(held.changes, many + 1)

    def test_an_action_that_undoes(self):
        for way, held in self.each():
            before = way.told(held)

            def action(given):
                given.undo()
                given.undo()
                raise Stop
            self.assertRaises(Stop, held.tried, action)
            self.assertEqual(way.told(held), before)


if __name__ == "__main__":
    unittest.main()

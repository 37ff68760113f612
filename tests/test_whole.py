"""The whole program: its files, its names, what is returned passed on again, and the examples of the document."""

import ast
import importlib
import inspect
import unittest
from pathlib import Path

from tests.plain import Dice, any_change, any_tracks
from tests.test_great import great_track
from tests.test_reach import any_bounds
from touchpasses import errors
from touchpasses.certificates import certify, certify_form, certify_pair, certify_reach
from touchpasses.checker import accepts
from touchpasses.console import Console
from touchpasses.desks import Desk
from touchpasses.forms import form, number_at, pieces, weight_of
from touchpasses.jumps import reach, steepest, sudden
from touchpasses.likeness import alike, first_unlike, fitting, unlike
from touchpasses.mends import holds, mends
from touchpasses.orders import least_parts, needless, orders, swaps
from touchpasses.shelves import Shelf
from touchpasses.traces import changed_by, heard, kept, old_heard
from touchpasses.tracks import Track

FOLDER = Path(errors.__file__).parent
MODULES = ("limits", "errors", "tracks", "forms", "likeness", "traces", "orders", "jumps", "mends", "desks", "shelves",
           "checker", "certificates", "console")
CALLS = {
    "tracks": ("Track(length, passes=())",),
    "forms": ("form(track, tick)", "pieces(track)", "weight_of(track, tick, source)", "number_at(track, tick, known)"),
    "likeness": ("unlike(one, other)", "alike(one, other)", "first_unlike(one, other)", "fitting(tracks, seen)"),
    "traces": ("heard(track, name)", "old_heard(track)", "kept(track)", "changed_by(track, name)"),
    "orders": ("needless(track)", "least_parts(track)", "swaps(track)", "orders(track)"),
    "jumps": ("sudden(track, limit)", "steepest(track)", "reach(track, bounds)"),
    "mends": ("holds(track, wish)", "mends(track, wishes, changes)"),
    "desks": ("Desk(track)",), "shelves": ("Shelf()",), "console": ("Console(track)",),
    "checker": ("accepts(claim, certificate)",),
    "certificates": ("certify_form(track, tick)", "certify_pair(one, other)", "certify(track, wish)",
                     "certify_reach(track, bounds)"),
}
METHODS = {
    Track: ("put(self, one_pass, place=None)", "without(self, name)", "moved(self, name, place)", "changed(self, change)"),
    Desk: ("put(self, one_pass, place=None)", "take(self, name)", "move(self, name, place)", "change(self, change)",
           "promise(self, wish)", "lift(self, index)", "undo(self)", "trial(self)", "tried(self, action)"),
    Shelf: ("remove(self, name)", "wish(self, wish)", "lift(self, index)", "undo(self)", "trial(self)",
            "tried(self, action)"),
    Console: ("say(self, line)",),
}
EXAMPLES = """
>>> from touchpasses.tracks import Track
>>> a, b = ("a", "touch", 2, 8, ((3, 5),), 3, "stop"), ("b", "latch", 4, 10, ((6, 7),), 0, "stop")
>>> one, two = Track(12, (a,)), Track.read("track 12\\npass a touch 2 8 3 stop 3-5\\npass b latch 4 10 0 stop 6-7")
>>> from touchpasses.jumps import reach, steepest, sudden
>>> [sudden(two, (1, 2)), sudden(two, (1, 1)), steepest(two), steepest(Track(5)), reach(one, (("a", -10, 20), ("old", 0, 5)))]
[(3, 6, 10), (), ((1, 1), 3), None, ((-10, 1), 3, (20, 1), 3)]
>>> from touchpasses.mends import holds, mends
>>> [holds(two, ("heard", "a", 3, 5)), holds(two, ("kept", 0, 4)), holds(two, ("flat", 6, 10)), holds(two, ("calm", (1, 1))), holds(two, ("heard", "x", 0, 1))]
[True, False, True, True, False]
>>> mends(one, (("kept", 7, 8),), (("a", "glide", 1), ("a", "to", 7), ("a", "glide", 2), ("a", "mode", "latch"), ("a", "to", 99)))
((0,), (1,), (2,))
>>> from touchpasses.desks import Desk
>>> desk = Desk(one)
>>> desk.promise(("heard", "a", 3, 5))
>>> desk.put(b)
>>> [desk.track == two, len(desk), desk.changes, desk.promises]
[True, 2, 2, (('heard', 'a', 3, 5),)]
>>> desk.put(("g", "write", 2, 5, (), 0, "stop"))
raises Broken(index=0)
>>> desk.take("a")
raises Broken(index=0)
>>> from touchpasses.shelves import Shelf
>>> shelf = Shelf()
>>> shelf["first"] = one
>>> shelf["second"] = two
>>> shelf.wish(("first", ("kept", 8, 12)))
>>> [shelf.names, len(shelf.wishes), shelf.changes, "third" in shelf]
[('first', 'second'), 1, 3, False]
>>> shelf.wish(("alike", "first", "second"))
raises Broken(index=1)
>>> from touchpasses.forms import form
>>> from touchpasses.certificates import certify, certify_pair, certify_reach
>>> from touchpasses.checker import accepts
>>> [certify_pair(one, one)[0][0], accepts(("unlike", str(one), str(two)), 6), accepts(("unlike", str(one), str(two)), 5), certify(two, ("kept", 0, 4))[0][0]]
['same', True, False, 'fails']
>>> [accepts(("form", str(one), 5, form(one, 5)), ()), accepts(("fails", str(two), ("flat", 5, 7)), 6), accepts(("fails", str(two), ("flat", 5, 7)), 5)]
[True, True, False]
>>> [pair[0][3:] for pair in certify_reach(one, (("a", -10, 20), ("old", 0, 5)))]
[('least', (-10, 1)), ('greatest', (20, 1))]
>>> from touchpasses.console import Console
>>> console = Console(one)
>>> [console.say("form 5"), console.say("put b latch 4 10 0 stop 6-7"), console.say("passes"), console.say("heard a"), console.say("kept")]
['a 4 3/4 + old 5 1/4', 'ok', 'a b', '3-5', '0-3 10-12']
>>> [console.say("promise kept 10 12"), console.say("move a 1"), console.say("form 7"), console.say("take x"), console.say("put b touch 0 1 0 stop"), console.say("form 12")]
['ok', 'ok', 'a 4 1/4 + b 6 3/4', 'UnknownName', 'InvalidPass', 'InvalidTick']
>>> console.say("form  5")
raises InvalidText(given='form  5')
"""


def needed_by(name, seen=()):
    """All modules of the package that a module imports, itself or through others."""
    found = set()
    for node in ast.parse((FOLDER / f"{name}.py").read_text()).body:
        if isinstance(node, ast.ImportFrom) and node.module.startswith("touchpasses."):
            other = node.module.split(".")[1]
            found |= {other} | (needed_by(other, (*seen, name)) if other not in seen else set())
    return found


def told_by(row, names):
    """What a row of an example shows: its value, or the error that it raises."""
    try:
        tree = ast.parse(row)
        if isinstance(tree.body[0], ast.Expr):
            value = eval(row, names)
            return "" if value is None else repr(value)
        exec(row, names)
        return ""
    except (errors.BadValue, errors.BadName, errors.NoAnswer) as error:
        parts = ", ".join(f"{word}={value!r}" for word, value in vars(error).items())
        return f"raises {type(error).__name__}({parts})"


class Files(unittest.TestCase):

    def test_each_module_needs_only_those_listed_ahead_of_it(self):
        for at, name in enumerate(MODULES):
            with self.subTest(name):
                self.assertEqual((needed_by(name) & set(MODULES)) - set(MODULES[:at]), set())

    def test_the_package_holds_nothing_but_modules(self):
        found = sorted(path.name for path in FOLDER.iterdir() if path.name != "__pycache__")
        self.assertEqual([name for name in found if not name.endswith(".py")], [])
        self.assertLessEqual({f"{name}.py" for name in MODULES}, set(found))
        self.assertIn("__init__.py", found)

    def test_sizes_of_files_lines_and_functions(self):
        for path in FOLDER.glob("*.py"):
            with self.subTest(path.name):
                text = path.read_text()
                rows = text.split("\n")
                self.assertTrue(len(rows) < 400 and max(map(len, rows)) <= 120 and text.isascii() and "\t" not in text)
                for node in ast.walk(ast.parse(text)):
                    if isinstance(node, ast.FunctionDef):
                        self.assertLessEqual(node.end_lineno - node.lineno + 1, 40, node.name)

    def test_each_call_is_defined_in_its_file_with_its_parameters(self):
        for name, calls in CALLS.items():
            module = importlib.import_module(f"touchpasses.{name}")
            for call in calls:
                with self.subTest(call):
                    word = call.split("(")[0]
                    found = getattr(module, word)
                    self.assertEqual(found.__module__, module.__name__)
                    self.assertEqual(word + str(inspect.signature(found)), call)

    def test_each_method_is_defined_in_its_class_with_its_parameters(self):
        for found, methods in METHODS.items():
            for method in methods:
                with self.subTest(method):
                    word = method.split("(")[0]
                    self.assertEqual(word + str(inspect.signature(vars(found)[word])), method)


class Examples(unittest.TestCase):

    def test_all_of_them(self):
        names = {}
        rows = EXAMPLES.strip().split("\n")
        for at, row in enumerate(rows):
            if row.startswith(">>> "):
                behind = rows[at + 1] if at + 1 < len(rows) else ">>> "
                self.assertEqual(told_by(row[4:], names), "" if behind.startswith(">>> ") else behind, row)


class Together(unittest.TestCase):
    """What one call returns holds for the others, and can be passed to them."""

    def tracks(self):
        dice = Dice(981)
        return any_tracks(40, 982) + [great_track(dice, 1 + k) for k in range(8)]

    def test_stretches_are_wishes_that_hold(self):
        for track in self.tracks():
            for name in track.names:
                for first, end in heard(track, name):
                    self.assertTrue(holds(track, ("heard", name, first, end)))
                    self.assertFalse(end < track.length and holds(track, ("heard", name, first, end + 1)))
                    self.assertFalse(first and holds(track, ("heard", name, first - 1, end)))
            for first, end in kept(track):
                self.assertTrue(holds(track, ("kept", first, end)))
                self.assertFalse(end < track.length and holds(track, ("kept", first, end + 1)))
            for first, end, terms in pieces(track):
                still = all(place is not None for _, place, _ in terms)
                self.assertEqual(holds(track, ("flat", first, end)), still or end - first == 1)

    def test_the_steepest_step_is_a_limit(self):
        for track in self.tracks():
            found = steepest(track)
            self.assertEqual(found is None, holds(track, ("calm", (0, 1))))
            if found is not None:
                step, tick = found
                self.assertEqual(sudden(track, step), ())
                self.assertTrue(holds(track, ("calm", step)))
                less = (step[0] * 10 ** 9 - 1, step[1] * 10 ** 9)
                lower = next((pair for pair in (less, (less[0] - 1, less[1])) if self.is_lowest(pair)), None)
                if lower:
                    self.assertEqual(sudden(track, lower)[0], tick)

    def is_lowest(self, pair):
        top, bottom = pair
        while top:
            top, bottom = bottom % top, top
        return bottom == 1

    def test_reach_and_number_at(self):
        dice = Dice(983)
        for track in self.tracks():
            bounds = any_bounds(dice, track)
            least, low_at, most, high_at = reach(track, bounds)
            for number, tick, side in ((least, low_at, 1), (most, high_at, 2)):
                ends = {bound[0]: bound[side] for bound in bounds}
                known = tuple((source, place, ends[source]) for source, place, _ in form(track, tick))
                self.assertEqual(number_at(track, tick, known), number)

    def test_needless_passes_and_like(self):
        for track in self.tracks():
            for name in track.names:
                left = track.without(name)
                self.assertEqual(holds(track, ("like", str(left))), name in needless(track))
                self.assertEqual(holds(left, ("like", str(track))), changed_by(track, name) == ())
            for part in least_parts(track):
                text = str(Track(track.length, tuple(track.passes[k] for k in part)))
                self.assertTrue(holds(track, ("like", text)))

    def test_papers_of_everything(self):
        dice = Dice(984)
        for track in self.tracks():
            other = any_change(dice, track) if track.length < 20 else track.moved(track.names[0], len(track) - 1)
            papers = [certify_form(track, 0), certify_form(track, track.length - 1), certify_pair(track, other),
                      *certify_reach(track, any_bounds(dice, track)), certify(track, ("like", str(other))),
                      certify(track, ("calm", (0, 1))), certify(track, ("kept", 0, track.length))]
            for claim, certificate in papers:
                self.assertIs(accepts(claim, certificate), True, claim)
            self.assertEqual(papers[2][0][0] == "same", alike(track, other))
            for first, end in unlike(track, other):
                for tick in (first, end - 1):
                    self.assertIs(accepts(("unlike", str(track), str(other)), tick), True)
                    self.assertEqual(fitting((track, other), ((tick, form(other, tick)),)), (1,))
                self.assertGreaterEqual(first, first_unlike(track, other))

    def test_a_desk_a_console_and_a_shelf_do_the_same(self):
        for track in self.tracks():
            if not len(track):
                continue
            name, one_pass = track.names[0], track.passes[0]
            desk, console, shelf = Desk(track), Console(track), Shelf()
            shelf["it"] = track
            stretches = heard(track, name)
            if stretches:
                wish = ("heard", name, *stretches[0])
                desk.promise(wish)
                self.assertEqual(console.say("promise heard {} {} {}".format(name, *stretches[0])), "ok")
                shelf.wish(("it", wish))
                self.assertRaises(errors.Broken, desk.take, name)
                self.assertEqual(console.say(f"take {name}"), "Broken")
                self.assertRaises(errors.Broken, shelf.__setitem__, "it", track.without(name))
            else:
                desk.take(name)
                self.assertEqual(console.say(f"take {name}"), "ok")
                shelf["it"] = track.without(name)
                self.assertEqual((desk.track, console.desk.track), (shelf["it"], shelf["it"]))
                desk.put(one_pass, 0)
                self.assertEqual(desk.track, track)

    def test_mending_with_the_changes_of_a_track(self):
        for track in self.tracks():
            if len(track):
                changes = tuple((name, "touches", ()) for name in track.names[:6])
                wishes = (("kept", 0, 1), ("kept", track.length - 1, track.length))
                for part in mends(track, wishes, changes):
                    desk = Desk(track)
                    for k in part:
                        desk.change(changes[k])
                    for wish in wishes:
                        desk.promise(wish)
                    self.assertEqual(desk.changes, len(part) + 2)

    def test_orders_and_places(self):
        for track in any_tracks(20, 985, many=3):
            desk = Desk(track)
            desk.promise(("like", str(track)))
            for k in range(len(track) - 1):
                call = (desk.move, track.names[k], k + 1)
                if k in swaps(track):
                    call[0](*call[1:])
                    desk.undo()
                else:
                    self.assertRaises(errors.Broken, *call)
            self.assertGreaterEqual(orders(track), 2 if swaps(track) else 1)

    def test_weights_and_olds(self):
        for track in self.tracks():
            for first, end in old_heard(track):
                self.assertEqual(first < end, True)
            for tick in (0, track.length - 1):
                shares = [weight_of(track, tick, source) for source in ("old", *track.names)]
                self.assertEqual(len([share for share in shares if share != (0, 1)]), len(form(track, tick)))


if __name__ == "__main__":
    unittest.main()

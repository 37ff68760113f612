"""Console: each line, its answer sign by sign, and what is no line."""

import unittest

from tests.plain import Dice, any_pass, any_tracks
from tests.samples import A, B, C, D, EIGHT, NO_TRACKS, NO_TUPLES, Case, Everything
from tests.samples import WRONG_MODES, WRONG_NAMES, WRONG_TAILS
from touchpasses import console as console_file
from touchpasses import errors
from touchpasses.console import Console
from touchpasses.desks import Desk
from touchpasses.errors import InvalidText, NotATrack
from touchpasses.forms import form
from touchpasses.orders import needless
from touchpasses.traces import heard, kept
from touchpasses.tracks import Track

MOST = 10 ** 12
ONE, TWO = Track(12, (A,)), Track(12, (A, B))
PUT_B = "put b latch 4 10 0 stop 6-7"
BIG, TOO_BIG = "9" * 13, "1" + "0" * 13


def told(console):
    desk = console.desk
    return desk.track, desk.promises, desk.changes, len(desk), str(desk.track)


class ConsoleCase(Case):

    def says(self, console, line, wanted):
        answer = console.say(line)
        self.assertEqual((type(answer), answer), (str, wanted), line)

    def done(self, console, line):
        """The line is one change more, answered with `ok`."""
        many = console.desk.changes
        self.says(console, line, "ok")
        self.assertEqual(console.desk.changes, many + 1)

    def asks(self, track, line, wanted):
        """The line is answered with this and changes nothing."""
        console = Console(track)
        before = told(console)
        self.says(console, line, wanted)
        self.assertEqual(console.say(line=line), wanted)
        self.assertEqual(told(console), before)

    def no_line(self, console, line):
        before = told(console)
        with self.subTest(repr(line)):
            self.refused_given(InvalidText, line, console.say, line)
            self.refused_given(InvalidText, line, console.say, line=line)
        self.assertEqual(told(console), before)


class New(ConsoleCase):

    def test_the_desk(self):
        for track in (Track(1), ONE, TWO, Track(12, EIGHT)):
            for console in (Console(track), Console(track=track)):
                desk = console.desk
                self.assertIs(type(desk), Desk)
                self.assertIs(console.desk, desk)
                self.assertEqual((desk.track, desk.promises, desk.changes), (track, (), 0))

    def test_no_tracks(self):
        for value in NO_TRACKS + (Desk(ONE), Console(ONE)):
            with self.subTest(repr(value)):
                self.refused_given(NotATrack, value, Console, value)
                self.refused_given(NotATrack, value, Console, track=value)

    def test_equal_to_itself_alone_and_true(self):
        one, two = Console(ONE), Console(ONE)
        for other in (two, None, 0, "", ONE, one.desk, Everything(), Console):
            self.assertIs(one == one, True)
            self.assertIs(one != one, False)
            self.assertIs(one == other, False)
            self.assertIs(one != other, True)
        self.assertIs(bool(one), True)

    def test_two_consoles_do_not_touch_each_other(self):
        one, two = Console(ONE), Console(ONE)
        self.done(one, PUT_B)
        self.assertEqual((two.desk.track, two.desk.changes), (ONE, 0))
        self.done(two, "take a")
        self.assertEqual((one.desk.track, one.desk.changes), (TWO, 1))

    def test_the_file(self):
        self.assertEqual(Console.__module__, console_file.__name__)
        self.assertIn("say", vars(Console))
        self.assertIn("desk", vars(Console))

    def test_the_desk_is_worked_at_directly_as_well(self):
        console = Console(ONE)
        console.desk.put(B)
        self.says(console, "passes", "a b")
        self.done(console, "take b")
        console.desk.undo()
        console.desk.promise(("heard", "b", 6, 7))
        self.says(console, "take b", "Broken")
        self.says(console, "undo", "ok")
        self.done(console, "take b")


class Changes(ConsoleCase):

    def test_put(self):
        console = Console(ONE)
        self.done(console, PUT_B)
        self.assertEqual(console.desk.track, TWO)
        self.done(console, "put c trim 0 6 1 stop 1-3")
        self.done(console, "put d write 4 8 0 on")
        self.assertEqual(console.desk.track, Track(12, (A, B, C, ("d", "write", 4, 8, (), 0, "on"))))

    def test_put_of_each_pass(self):
        dice = Dice(951)
        for _ in range(150):
            length = 1 + dice.upto(12)
            one = any_pass(dice, dice.one_of(("a", "zz9", "abcdefgh")), length)
            console, row = Console(Track(length)), str(Track(length, (one,))).split("\n")[1]
            self.done(console, "put" + row[4:])
            self.assertEqual(console.desk.track.passes, (one,))

    def test_put_of_six_touches_on_a_great_track(self):
        console = Console(Track(MOST))
        self.done(console, f"put a touch 0 {MOST} 100 on 0-1 2-3 4-5 6-7 8-9 10-{MOST}")
        self.assertEqual(console.desk.track["a"][4][5], (10, MOST))

    def test_put_of_what_is_no_pass_of_the_track(self):
        for row in ("a touch 2 8 3 stop 3-5", "a write 0 1 0 on", "old touch 2 8 3 stop 3-5", "b touch 2 13 3 stop",
                    "b touch 8 2 3 stop", "b touch 2 2 3 stop", "b touch 2 8 101 stop", f"b touch 2 8 {BIG} stop",
                    f"b touch 2 {BIG} 3 stop", f"b touch {BIG} {BIG} 3 stop", "b touch 2 8 3 stop 5-3",
                    "b touch 2 8 3 stop 3-3",
                    "b touch 2 8 3 stop 1-3", "b touch 2 8 3 stop 3-9", "b touch 2 8 3 stop 3-5 5-6",
                    "b touch 2 8 3 stop 5-6 3-4",
                    f"b touch 2 8 3 stop 3-{BIG}", f"b touch 2 8 3 stop {BIG}-{BIG}", "b touch 2 8 3 stop 0-0",
                    "b touch 0 12 3 stop 0-1 2-3 4-5 6-7 8-9 10-11 11-12", "b touch 0 12 0 stop" + " 0-1" * 40,
                    "b touch 0 12 0 stop 0-1 2-3 4-5 6-7 8-9 10-11 12-13", "b trim 0 0 0 on",
                    "b latch 99 100 0 on 99-100"):
            self.asks(ONE, "put " + row, "InvalidPass")

    def test_put_that_is_refused(self):
        console = Console(Track(12, EIGHT))
        self.says(console, "put i touch 2 8 3 stop 3-5", "TooMany")
        self.says(console, "put a touch 2 8 3 stop 3-5", "InvalidPass")
        console = Console(ONE)
        self.done(console, "promise heard a 3 5")
        self.says(console, "put g write 2 5 0 stop", "Broken")
        self.assertEqual((console.desk.track, console.desk.changes), (ONE, 1))

    def test_take(self):
        console = Console(TWO)
        self.done(console, "take a")
        self.assertEqual(console.desk.track, Track(12, (B,)))
        for name in ("a", "x", "old", "take", "abcdefgh"):
            self.says(console, "take " + name, "UnknownName")
        self.done(console, "take b")
        self.assertEqual(console.desk.changes, 2)

    def test_move(self):
        for name in "abc":
            for place in range(3):
                console = Console(Track(12, (A, B, C)))
                self.done(console, f"move {name} {place}")
                self.assertEqual(console.desk.track, Track(12, (A, B, C)).moved(name, place))
        self.asks(TWO, "move a 2", "InvalidPlace")
        self.asks(TWO, "move a " + BIG, "InvalidPlace")
        self.asks(TWO, "move x 0", "UnknownName")
        self.asks(TWO, "move x 9", "UnknownName")
        self.asks(TWO, "move old 0", "UnknownName")

    def test_undo(self):
        console = Console(ONE)
        self.says(console, "undo", "NothingToUndo")
        self.done(console, PUT_B)
        self.done(console, "promise kept 0 3")
        for track, promises, left in ((TWO, (), 1), (ONE, (), 0)):
            self.says(console, "undo", "ok")
            self.assertEqual((console.desk.track, console.desk.promises, console.desk.changes), (track, promises, left))
        self.says(console, "undo", "NothingToUndo")

    def test_promise(self):
        console = Console(TWO)
        self.done(console, "promise heard a 3 5")
        self.done(console, "promise kept 10 12")
        self.done(console, "promise heard b 6 7")
        self.assertEqual(console.desk.promises, (("heard", "a", 3, 5), ("kept", 10, 12), ("heard", "b", 6, 7)))
        for line in ("promise heard a 3 6", "promise heard x 0 1", "promise heard old 0 1", "promise kept 0 4"):
            self.asks(TWO, line, "Broken")
            self.says(console, line, "Broken")
        for line in ("promise heard a 3 13", "promise heard a 5 3", "promise heard a 3 3", "promise kept 3 13",
                     "promise kept 12 12", "promise kept 5 3", f"promise kept 0 {BIG}", f"promise heard a {BIG} {BIG}"):
            self.asks(TWO, line, "InvalidWish")
        self.assertEqual(console.desk.changes, 3)

    def test_lift(self):
        console = Console(TWO)
        self.says(console, "lift 0", "InvalidIndex")
        self.done(console, "promise heard a 3 5")
        self.done(console, "promise kept 0 2")
        for index in ("2", "9", BIG):
            self.says(console, "lift " + index, "InvalidIndex")
        self.done(console, "lift 0")
        self.assertEqual(console.desk.promises, (("kept", 0, 2),))
        self.done(console, "take a")

    def test_a_promise_is_kept(self):
        console = Console(ONE)
        self.done(console, "promise heard a 3 5")
        self.says(console, "take a", "Broken")
        self.done(console, PUT_B)
        self.done(console, "move a 1")
        self.done(console, "lift 0")
        self.done(console, "take a")


class Questions(ConsoleCase):

    def test_form(self):
        self.asks(ONE, "form 5", "a 4 3/4 + old 5 1/4")
        self.asks(ONE, "form 0", "old 0 1")
        self.asks(ONE, "form 3", "a 3 1")
        self.asks(TWO, "form 9", "b 6 1")
        self.asks(Track(12, (C,)), "form 2", "c 2 1 + old 2 1")
        self.asks(Track(12, (C,)), "form 3", "c 2 1/2 + old 3 1")
        self.asks(Track(12, (D,)), "form 5", "old 4 1")
        self.asks(Track(MOST), f"form {MOST - 1}", f"old {MOST - 1} 1")

    def test_form_of_no_tick(self):
        for tick in ("12", "13", BIG):
            self.asks(ONE, "form " + tick, "InvalidTick")
        self.asks(Track(MOST), f"form {MOST}", "InvalidTick")

    def test_heard(self):
        self.asks(TWO, "heard a", "3-5")
        self.asks(TWO, "heard b", "6-7")
        self.asks(Track(12, (("n", "latch", 0, 9, (), 4, "on"),)), "heard n", "none")
        two = Track(12, (("a", "touch", 0, 12, ((0, 2), (5, 6), (11, 12)), 0, "stop"),))
        self.asks(two, "heard a", "0-2 5-6 11-12")
        for name in ("x", "old", "heard", "abcdefgh"):
            self.asks(TWO, "heard " + name, "UnknownName")

    def test_kept(self):
        self.asks(TWO, "kept", "0-3 10-12")
        self.asks(Track(MOST), "kept", "0-1000000000000")
        self.asks(Track(12, (("a", "touch", 0, 12, ((0, 12),), 0, "stop"),)), "kept", "none")

    def test_needless(self):
        row = tuple((name, "latch", 0, 9, (), 4, "on") for name in ("zz", "b", "m1"))
        self.asks(Track(12, row), "needless", "b m1 zz")
        self.asks(Track(12, row[:1]), "needless", "zz")
        self.asks(TWO, "needless", "none")
        self.asks(Track(12), "needless", "none")

    def test_passes(self):
        self.asks(Track(12, (B, A)), "passes", "b a")
        self.asks(Track(12, EIGHT[::-1]), "passes", "h g f e d c b a")
        self.asks(Track(12), "passes", "none")
        self.asks(ONE, "passes", "a")

    def test_against_the_calls(self):
        def rows(stretches):
            return " ".join(f"{first}-{end}" for first, end in stretches) or "none"

        def weight(pair):
            return str(pair[0]) if pair[1] == 1 else f"{pair[0]}/{pair[1]}"
        for track in any_tracks(40, 961):
            for tick in range(track.length):
                parts = [f"{source} {place} {weight(share)}" for source, place, share in form(track, tick)]
                self.asks(track, f"form {tick}", " + ".join(parts))
            for name in track.names:
                self.asks(track, "heard " + name, rows(heard(track, name)))
            self.asks(track, "kept", rows(kept(track)))
            self.asks(track, "needless", " ".join(needless(track)) or "none")
            self.asks(track, "passes", " ".join(track.names) or "none")


LINES = (PUT_B, "put c write 0 1 0 on", "take a", "move a 0", "undo", "promise heard a 3 5", "promise kept 0 3",
         "lift 0",
         "form 5", "heard a", "kept", "needless", "passes")


class NoLines(ConsoleCase):

    def test_values_that_are_no_strings(self):
        console = Console(ONE)
        for value in NO_TUPLES + (("undo",), ["undo"], b"undo", ("form", 5), {"undo": 1}, 5, ONE, console, (b"kept",)):
            if not isinstance(value, str):
                self.no_line(console, value)

    def test_each_line_with_more(self):
        console = Console(TWO)
        for line in LINES:
            for wrong in (line + " ", " " + line, line + "\n", "\n" + line, line.upper(), line.title(), line + " x",
                          line + " 5", line + "  ", "  " + line, "say " + line, line + " " + line, "'" + line + "'",
                          line + ";", line + "."):
                self.no_line(console, wrong)
            for sign in ("  ", "\n", "_", ",", " \n", ""):
                if " " in line:
                    self.no_line(console, line.replace(" ", sign, 1))
                    self.no_line(console, sign.join(line.rsplit(" ", 1)))

    def test_each_line_with_less(self):
        """Without touches, as these could stand for a word that is missing."""
        console = Console(TWO)
        for line in ("put c write 0 1 0 on",) + LINES[2:]:
            words = line.split(" ")
            for at in range(len(words)):
                self.no_line(console, " ".join(words[:at]))
                left = " ".join(words[:at] + words[at + 1:])
                # Without `promise` the name of the form and its values are left, and `heard a 3 5` is no line either.
                self.no_line(console, left)

    def test_no_words(self):
        console = Console(TWO)
        for line in ("", " ", "\n", "x", "none", "ok", "say", "puts", "pass", "pass b latch 4 10 0 stop 6-7", "promise",
                     "promise heard", "promise kept", "promise flat 0 1", "promise calm 1/2", "promise like track",
                     "promise heard 0 1", "promise kept a 0 1", "heard", "old", "names", "track 12", "redo",
                     "change a glide 5",
                     "promise  kept 0 3", "promiseheard a 3 5", "kept 0 3", "heard a 3 5", "needless a", "passes a",
                     "undo 1",
                     "lift", "lift a", "take", "take 5", "move", "move a", "move 0 a", "form", "form a", "trial",
                     "length"):
            self.no_line(console, line)

    def test_numbers(self):
        console = Console(TWO)
        for number in ("00", "01", "05", "-1", "-0", "+1", "+0", "1.0", "1e3", "1_0", "0x1", "", "a", " 1", "1 ",
                       "1,0", "3/4",
                       "3-5", TOO_BIG, "0" * 14, "0" * 13, "1" * 40, "None", "one", "True"):
            for line in ("move a {}", "promise heard a {} 5", "promise heard a 3 {}", "promise kept {} 3",
                         "promise kept 0 {}",
                         "lift {}", "form {}", "put c write {} 5 0 on", "put c write 0 {} 0 on",
                         "put c write 0 5 {} on",
                         "put c write 0 5 0 on {}-5", "put c write 0 5 0 on 1-{}", "put c write 0 5 0 on 0-1 {}-3"):
                self.no_line(console, line.format(number))

    def test_the_most_digits(self):
        console = Console(TWO)
        for line, answer in (("move a {}", "InvalidPlace"), ("promise kept 0 {}", "InvalidWish"),
                             ("lift {}", "InvalidIndex"),
                             ("form {}", "InvalidTick"), ("put c write 0 5 {} on", "InvalidPass")):
            self.says(console, line.format(BIG), answer)
            self.says(console, line.format("1" + "0" * 12), answer)
            self.no_line(console, line.format(TOO_BIG))

    def test_names(self):
        console = Console(TWO)
        for name in WRONG_NAMES:
            if isinstance(name, str) and name != "old":
                for line in ("take {}", "move {} 0", "promise heard {} 3 5", "heard {}", "put {} write 0 5 0 on"):
                    self.no_line(console, line.format(name))

    def test_parts_of_a_pass(self):
        console = Console(TWO)
        for mode in WRONG_MODES:
            if isinstance(mode, str):
                self.no_line(console, f"put c {mode} 0 5 0 on")
        for tail in WRONG_TAILS:
            if isinstance(tail, str):
                self.no_line(console, f"put c write 0 5 0 {tail}")
                self.no_line(console, f"put c write 0 5 0 {tail} 1-2")
        for touch in ("1", "1-", "-1", "1-2-3", "1--2", "-", "--", "1:2", "1,2", "(1,2)", "a-b", "1-b", "1 -2", "1-2 ",
                      " 1-2", "1-2,",
                      "1-2 3", "3 1-2", "1 2", "on", "stop"):
            self.no_line(console, "put c write 0 5 0 on " + touch)
        for line in ("put write c 0 5 0 on", "put c 0 5 0 on", "put c write 0 5 on", "put c write 0 5 on 0",
                     "put c write 0 on",
                     "put c write 0 5 0 1-2 on", "put c write 0 5 1-2 0 on", "put", "put c", "put ",
                     "put pass c write 0 5 0 on"):
            self.no_line(console, line)

    def test_base_class(self):
        self.assertIsInstance(self.refused(InvalidText, Console(ONE).say, None), errors.BadValue)


if __name__ == "__main__":
    unittest.main()

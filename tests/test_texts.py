"""The texts of tracks: written, read, and refused."""

import unittest

from tests.samples import A, B, C, D, EIGHT, RIGHT, Case, a_pass, named
from touchpasses.errors import BadValue, InvalidText
from touchpasses.tracks import Track

ONE = "track 12\npass a touch 2 8 3 stop 3-5"
TWO = ONE + "\npass b latch 4 10 0 stop 6-7"
# What stands in ONE, and in its place makes it the text of no track.
SPOILT = (
    ("track", ("", "Track", "TRACK", "tracks", "pass", " track", "track track", "trac", "\ntrack", "length")),
    ("track 12", ("", "12", "track", "track ", "track  12", "track 12 ", " track 12", "track 12 12", "track\n12",
                  "track 12\n", "track-12", "12 track", "pass a touch 2 8 3 stop 3-5")),
    ("12", ("0", "012", "0012", "-12", "+12", "12.0", "1_2", "1 2", "twelve", "0x12", "1e3", "", "7", "None",
            "1000000000001", "9999999999999", "10000000000000", "1" + "0" * 39)),
    ("pass", ("", "Pass", "PASS", "passes", "track", "pass pass", " pass", "pas", "\npass")),
    ("a touch", ("touch", "touch a", "a", "a  touch", "a\ntouch", "a a touch", "a touch touch")),
    (" a ", (" A ", " old ", " 1a ", " abcdefghi ", " a_b ", " a-b ", "  ", " ", " - ", "  a ", " a  ", "\na ",
             " a\n ")),
    ("touch", ("Touch", "touc", "touches", "read", "", "stop", "on", "old", "(touch)", "'touch'")),
    (" 2 ", (" 02 ", " -2 ", " +2 ", " 2.0 ", " two ", "  ", " ", " 4 ", " 8 ", " 12 ", "  2 ", " 2  ", " 2-",
             " 00 ", " -0 ", " 1000000000000 ", "\n2 ", " 2\n", " None ")),
    (" 8 ", (" 08 ", " -8 ", " +8 ", " 8_ ", "  ", " ", " 4 ", " 2 ", " 0 ", " 13 ", "  8 ", " 8  ", " 1000000000000 ",
             "\n8 ", " 8\n", " None ", " L ")),
    ("2 8 3", ("8 2 3", "2 3 8", "2 8", "2 8 3 3", "3 2 8", "2-8 3", "2 8  3")),
    (" 3 ", (" 03 ", " 003 ", " -1 ", " +3 ", " 101 ", " 0100 ", " 00 ", "  ", " ", " x ", " 3.0 ", "  3 ", " 3  ",
             "\n3 ", " 3\n", " 1000000000000 ")),
    ("stop", ("Stop", "off", "stops", "", "0", "touch", "stop stop", "stop on", "on stop", " stop", "stop ", "stop,")),
    (" 3-5", (" ", " 3", " 3-", " -5", " -", " 3--5", " 3-5-6", " 3 5", " 3 - 5", " 3- 5", " 5-3", " 3-3", " 1-5",
              " 3-9", " 03-5", " 3-05", " +3-5", " -3-5", " 3-+5", " 3_5", " 3:5", " (3, 5)", " 3-5 ", "  3-5",
              " 3-5 5-6", " 3-5 4-6", " 3-5 3-5", " 6-7 3-5", " 3-5  6-7", " 3-5, 6-7", " 3-5\n6-7", " 3-5;",
              " 2-3 3-4", " a-b", " 3-5 6", " 3-5 6-", " 3-1000000000000000000", "-3-5", "3-5")),
)


class Written(Case):

    def test_texts(self):
        rows = (
            ((1,), "track 1"),
            ((10 ** 12,), "track 1000000000000"),
            ((12, (A,)), ONE),
            ((12, (A, B)), TWO),
            ((12, (B, A)), "track 12\npass b latch 4 10 0 stop 6-7\npass a touch 2 8 3 stop 3-5"),
            ((12, (C, D)), "track 12\npass c trim 0 6 1 stop 1-3\npass d write 4 8 0 on 6-7"),
            ((12, (a_pass(touches=()),)), "track 12\npass a touch 2 8 3 stop"),
            ((12, (a_pass(touches=((2, 3), (4, 6), (7, 8)), glide=100),)),
             "track 12\npass a touch 2 8 100 stop 2-3 4-6 7-8"),
            ((12, (a_pass(from_=0, to=12, touches=((0, 1), (2, 3), (4, 5), (6, 7), (8, 9), (10, 12))),)),
             "track 12\npass a touch 0 12 3 stop 0-1 2-3 4-5 6-7 8-9 10-12"),
        )
        for args, text in rows:
            with self.subTest(text):
                self.assertEqual(str(Track(*args)), text)
                self.assertIs(type(str(Track(*args))), str)
                self.assertEqual(Track.read(text), Track(*args))


class Read(Case):

    def same(self, track):
        told = Track.read(str(track))
        self.assertEqual((told.length, told.passes, told.names), (track.length, track.passes, track.names))
        self.assertEqual(str(told), str(track))
        self.assertIs(told == track, True)
        self.assertIs(type(told), Track)
        self.assertEqual((type(told.length), type(told.passes)), (int, tuple))

    def test_by_position_and_by_name(self):
        self.assertEqual(Track.read(TWO), Track(12, (A, B)))
        self.assertEqual(Track.read(text=TWO), Track(12, (A, B)))
        self.assertEqual(Track.read("track 5").passes, ())

    def test_of_an_object(self):
        self.assertEqual(Track(5).read(ONE), Track(12, (A,)))

    def test_each_right_pass(self):
        for one in RIGHT:
            with self.subTest(one):
                self.same(Track(12, (one,)))
                self.same(Track(12, (a_pass(name="first"), one)))

    def test_long_tracks(self):
        most = 10 ** 12
        self.same(Track(most))
        self.same(Track(most, (a_pass(from_=0, to=most, touches=((0, 1), (most - 1, most))),)))
        self.same(Track(most, (a_pass(from_=most - 1, to=most, touches=()),)))

    def test_up_to_eight_passes(self):
        for many in range(9):
            with self.subTest(many):
                self.same(Track(12, EIGHT[:many]))


class Refused(Case):

    def none(self, text):
        with self.subTest(repr(text)):
            self.refused_given(InvalidText, text, Track.read, text)
            self.refused_given(InvalidText, text, Track.read, text=text)

    def test_spoilt_texts(self):
        self.assertEqual(str(Track.read(ONE)), ONE)
        for part, others in SPOILT:
            for other in others:
                self.assertIn(part, ONE)
                self.none(ONE.replace(part, other, 1))

    def test_signs_around(self):
        for text in ("track 5", ONE, TWO):
            for more in (" ", "\n", "\n\n", " \n", "x", "-", "0-"):
                self.none(more + text)
            for more in (" ", "\n", "\n\n", "\n ", "\nx", "-", ";", "\ntrack 5", "\npass"):
                self.none(text + more)

    def test_no_text(self):
        for text in ("", " ", "\n", "track", "track ", "pass", "old", "5", "track\n", "track 5 5", "track a"):
            self.none(text)

    def test_rows_in_another_order(self):
        track, first, second = TWO.split("\n")
        for rows in ((first, track, second), (first, second, track), (first, second), (first,),
                     (track, track), (track, track, first), (track, first, track), (track, first, "", second),
                     (track, "", first), ("", track, first), (track, first, second, ""), (track + " " + first,),
                     (track, first + " " + second)):
            self.none("\n".join(rows))

    def test_parts_in_another_order(self):
        for row in ("pass a touch 2 8 3-5 3 stop", "pass a touch 2 8 stop 3 3-5", "pass touch a 2 8 3 stop 3-5",
                    "pass a 2 8 touch 3 stop 3-5", "pass 3-5 a touch 2 8 3 stop", "pass a touch 3 2 8 stop 3-5",
                    "a pass touch 2 8 3 stop 3-5", "pass a touch 2 8 ((3, 5),) 3 stop", "pass a touch 2 8 3 3-5",
                    "pass a touch 2 8 3 3-5 stop"):
            self.none("track 12\n" + row)

    def test_numbers_beyond_the_limits(self):
        for text in ("track 0", "track 1000000000001", "track 12\npass a touch 2 13 3 stop 3-5",
                     "track 12\npass a touch 0 12 101 stop", "track 12\npass a touch 12 13 0 stop",
                     "track 12\npass a touch 12 12 0 stop", "track 7\npass a touch 2 8 3 stop 3-5",
                     "track 20\npass a touch 0 20 3 stop 0-1 2-3 4-5 6-7 8-9 10-11 12-13",
                     "track " + "9" * 40):
            self.none(text)

    def test_a_name_twice(self):
        self.none(ONE + "\npass a latch 4 10 0 stop 6-7")
        self.none(ONE + "\npass a touch 2 8 3 stop 3-5")
        self.none(TWO + "\npass a trim 0 12 0 on")
        self.none(TWO + "\npass b trim 0 12 0 on")

    def test_nine_passes(self):
        text = str(Track(12, EIGHT))
        self.assertEqual(len(Track.read(text)), 8)
        self.none(text + "\npass i touch 2 8 3 stop 3-5")
        self.none(text + "\npass i touch 2 8 3 stop 3-5\npass j touch 2 8 3 stop 3-5")

    def test_a_wrong_pass_behind_right_ones(self):
        seven = str(Track(12, EIGHT[:7]))
        self.none(seven + "\npass h touch 2 8 101 stop")
        self.none(seven + "\npass old touch 2 8 1 stop")
        self.assertEqual(Track.read(seven + "\npass h touch 2 8 3 stop 3-5"), Track(12, EIGHT[:7] + named("h")))

    def test_no_strings(self):
        for value in (None, True, False, 0, 5, 12, b"track 5", (), ("track 5",), ("track", 5), [], ["track 5"],
                      ["track 12", "pass a touch 2 8 3 stop 3-5"], {}, {"track 5": 1}, object(), Track(5), A, (5, ())):
            self.none(value)

    def test_it_is_a_bad_value(self):
        self.assertRaises(BadValue, Track.read, "track")
        self.assertRaises(ValueError, Track.read, None)


if __name__ == "__main__":
    unittest.main()

"""form and weight_of: against the document played word by word, and against forms written out."""

import unittest
from fractions import Fraction

from tests.plain import MODES, NAMES, Dice, Thrown, any_pass, any_tracks, each_pass
from tests.plain import plain_form, plain_forms, plain_numbers
from tests.samples import A, B, C, D, Case, Everything
from touchpasses.forms import form, weight_of
from touchpasses.tracks import Track

FULL = (1, 1)


def old(tick, weight=FULL):
    return (("old", tick, weight),)


def one_pass(mode, touches, glide=0, tail="stop", first=2, last=8):
    return ("a", mode, first, last, touches, glide, tail)


class FormCase(Case):

    def has_forms(self, track, wanted):
        """The forms of all ticks, by position and by name."""
        with self.subTest(str(track)):
            ticks = range(track.length)
            self.assertEqual([form(track, tick) for tick in ticks], list(wanted))
            self.assertEqual([form(tick=tick, track=track) for tick in ticks], list(wanted))

    def plays(self, track):
        """The forms are those of the passes played one behind the other."""
        with self.subTest(str(track)):
            self.assertEqual([form(track, tick) for tick in range(track.length)], plain_forms(track))


class WrittenOut(FormCase):
    """Forms that were worked out by hand."""

    def test_no_pass(self):
        self.has_forms(Track(4), [old(t) for t in range(4)])
        self.has_forms(Track(1), [old(0)])

    def test_no_touch(self):
        for tail, end in (("stop", 8), ("on", 10)):
            for mode in ("latch", "touch", "trim"):
                self.has_forms(Track(10, (one_pass(mode, (), 3, tail),)), [old(t) for t in range(10)])
            held = [old(t) if t < 2 or t >= end else old(2) for t in range(10)]
            self.has_forms(Track(10, (one_pass("write", (), 3, tail),)), held)

    def test_write(self):
        hand = [(("a", u, FULL),) for u in (4, 5, 5)]
        for glide in (0, 1, 100):
            ahead = [old(0), old(1), old(2), old(2)]
            self.has_forms(Track(10, (one_pass("write", ((4, 6),), glide),)),
                           ahead + hand + [(("a", 5, FULL),), old(8), old(9)])
            self.has_forms(Track(10, (one_pass("write", ((4, 6),), glide, "on"),)),
                           ahead + hand + [(("a", 5, FULL),)] * 3)

    def test_latch(self):
        ahead = [old(t) for t in range(4)]
        rest = [(("a", u, FULL),) for u in (4, 5, 5, 5)]
        self.has_forms(Track(10, (one_pass("latch", ((4, 6),), 3),)), ahead + rest + [old(8), old(9)])
        self.has_forms(Track(10, (one_pass("latch", ((4, 6),), 3, "on"),)), ahead + rest + [(("a", 5, FULL),)] * 2)

    def test_touch(self):
        ahead = [old(t) for t in range(4)] + [(("a", 4, FULL),), (("a", 5, FULL),)]
        glided = [(("a", 5, (3, 4)), ("old", 6, (1, 4))), (("a", 5, (1, 2)), ("old", 7, (1, 2))),
                  (("a", 5, (1, 4)), ("old", 8, (3, 4)))]
        touches = ((4, 6),)
        self.has_forms(Track(10, (one_pass("touch", touches, 0),)), ahead + [old(t) for t in range(6, 10)])
        self.has_forms(Track(10, (one_pass("touch", touches, 3),)), ahead + glided[:2] + [old(8), old(9)])
        self.has_forms(Track(10, (one_pass("touch", touches, 3, "on"),)), ahead + glided + [old(9)])
        halved = (("a", 5, (1, 2)), ("old", 6, (1, 2)))
        self.has_forms(Track(10, (one_pass("touch", touches, 1),)), ahead + [halved, old(7), old(8), old(9)])

    def test_trim(self):
        def added(u, tick, weight=FULL):
            return (("a", u, weight), ("old", tick, FULL))
        ahead = [old(t) for t in range(4)] + [added(4, 4), added(5, 5)]
        glided = [added(5, 6, (3, 4)), added(5, 7, (1, 2)), added(5, 8, (1, 4))]
        touches = ((4, 6),)
        self.has_forms(Track(10, (one_pass("trim", touches, 0),)), ahead + [old(t) for t in range(6, 10)])
        self.has_forms(Track(10, (one_pass("trim", touches, 3),)), ahead + glided[:2] + [old(8), old(9)])
        self.has_forms(Track(10, (one_pass("trim", touches, 3, "on"),)), ahead + glided + [old(9)])

    def test_touches_at_from_and_up_to_to(self):
        whole = [old(0), old(1)] + [(("a", t, FULL),) for t in range(2, 8)]
        for mode in ("write", "latch", "touch"):
            self.has_forms(Track(9, (one_pass(mode, ((2, 8),), 5),)), whole + [old(8)])
        behind = [(("a", 7, FULL),), (("a", 7, (1, 2)), ("old", 8, (1, 2)))]
        self.has_forms(Track(9, (one_pass("latch", ((2, 8),), 1, "on"),)), whole + behind[:1])
        self.has_forms(Track(9, (one_pass("touch", ((2, 8),), 1, "on"),)), whole + behind[1:])

    def test_a_glide_that_the_next_touch_cuts_short(self):
        track = Track(8, (one_pass("touch", ((2, 3), (4, 5)), 3, "on"),))
        self.has_forms(track, [old(0), old(1), (("a", 2, FULL),), (("a", 2, (3, 4)), ("old", 3, (1, 4))),
                               (("a", 4, FULL),), (("a", 4, (3, 4)), ("old", 5, (1, 4))),
                               (("a", 4, (1, 2)), ("old", 6, (1, 2))), (("a", 4, (1, 4)), ("old", 7, (3, 4)))])

    def test_trims_over_and_under_others(self):
        low = ("t", "trim", 0, 6, ((1, 2),), 2, "stop")
        high = ("p", "touch", 0, 6, ((0, 1),), 3, "stop")
        self.assertEqual(form(Track(6, (low, high)), 1),
                         (("old", 1, (1, 4)), ("p", 0, (3, 4)), ("t", 1, (1, 4))))
        self.assertEqual(form(Track(6, (high, low)), 1),
                         (("old", 1, (1, 4)), ("p", 0, (3, 4)), ("t", 1, FULL)))
        self.assertEqual(form(Track(6, (low, high)), 2),
                         (("old", 2, (1, 2)), ("p", 0, (1, 2)), ("t", 1, (1, 3))))
        self.assertEqual(form(Track(6, (high, low)), 2),
                         (("old", 2, (1, 2)), ("p", 0, (1, 2)), ("t", 1, (2, 3))))
        cover = ("w", "latch", 0, 6, ((0, 6),), 0, "stop")
        self.assertEqual(form(Track(6, (low, cover)), 1), (("w", 1, FULL),))
        self.assertEqual(form(Track(6, (cover, low)), 2), (("t", 1, (2, 3)), ("w", 2, FULL)))

    def test_a_write_that_holds_a_mixed_curve(self):
        trim = ("t", "trim", 0, 6, ((0, 1),), 4, "stop")
        mix = ("m", "touch", 0, 6, ((1, 2),), 2, "stop")
        hold = ("h", "write", 2, 5, (), 0, "stop")
        held = (("m", 1, (2, 3)), ("old", 2, (1, 3)), ("t", 0, (1, 5)))
        track = Track(7, (trim, mix, hold))
        self.assertEqual([form(track, t) for t in (2, 3, 4)], [held] * 3)
        self.assertEqual(form(track, 5), old(5))
        over = ("o", "trim", 3, 5, ((3, 4),), 1, "stop")
        self.assertEqual(form(track.put(over), 4), (held[0], ("o", 3, (1, 2))) + held[1:])
        again = ("g", "write", 4, 7, ((6, 7),), 0, "stop")
        self.assertEqual([form(track.put(again), t) for t in (3, 4, 5, 6)], [held] * 3 + [(("g", 6, FULL),)])

    def test_two_writes_that_hold(self):
        low, high = ("l", "write", 1, 4, (), 0, "on"), ("h", "write", 3, 6, (), 0, "stop")
        self.has_forms(Track(8, (low, high)), [old(0)] + [old(1)] * 7)
        self.has_forms(Track(8, (high, low)), [old(0)] + [old(1)] * 7)
        low = ("l", "write", 1, 4, (), 0, "stop")
        self.has_forms(Track(8, (low, high)), [old(t) for t in (0, 1, 1, 1, 1, 1, 6, 7)])
        self.has_forms(Track(8, (high, low)), [old(t) for t in (0, 1, 1, 1, 3, 3, 6, 7)])

    def test_the_example_of_the_document(self):
        one, two = Track(12, (A,)), Track(12, (A, B))
        self.assertEqual(form(one, 5), (("a", 4, (3, 4)), ("old", 5, (1, 4))))
        self.assertEqual(form(two, 9), (("b", 6, FULL),))
        self.assertEqual([weight_of(one, 6, "old"), weight_of(two, 6, "a")], [(1, 2), (0, 1)])
        self.assertEqual([form(Track(12, (C,)), t) for t in (2, 3, 4)],
                         [(("c", 2, FULL), ("old", 2, FULL)), (("c", 2, (1, 2)), ("old", 3, FULL)), old(4)])
        self.assertEqual([form(Track(12, (D,)), t) for t in (3, 4, 5, 6, 11)],
                         [old(3), old(4), old(4), (("d", 6, FULL),), (("d", 6, FULL),)])


class Played(FormCase):
    """Short tracks, each tick."""

    def test_each_pass_of_five_ticks(self):
        for one in each_pass(5, [(glide, tail) for glide in (0, 1, 2, 100) for tail in ("stop", "on")]):
            self.plays(Track(5, (one,)))

    def test_six_touches(self):
        touches = tuple((3 + 7 * k, 5 + 7 * k) for k in range(6))
        for mode in MODES:
            for glide in (0, 1, 4, 5, 6, 99, 100):
                for tail in ("stop", "on"):
                    for last in (40, 45, 130):
                        self.plays(Track(160, (("a", mode, 1, last, touches, glide, tail),)))

    def test_long_glides(self):
        for mode in ("touch", "trim"):
            for glide in (99, 100):
                for last in (2, 60, 101, 102, 103, 130):
                    for tail in ("stop", "on"):
                        self.plays(Track(130, (("a", mode, 0, last, ((1, 2),), glide, tail),)))

    def test_two_passes(self):
        for track in any_tracks(400, 1, many=2):
            self.plays(track)

    def test_several_passes(self):
        for many in range(9):
            for track in any_tracks(120, 20 + many, many=many):
                self.plays(track)

    def test_writes_over_others(self):
        dice = Dice(3)
        for track in any_tracks(200, 2, length=9, many=3):
            first = dice.upto(7)
            for touches in ((), ((8, 9),)):
                self.plays(track.put(("x", "write", first, 9, touches, 0, "stop")))
                self.plays(track.put(("x", "write", first, 9, touches, 0, "stop"), 1))

    def test_names_on_either_side_of_old(self):
        for track in any_tracks(300, 4, many=5, names=NAMES):
            self.plays(track)
            for tick in range(track.length):
                sources = [source for source, _, _ in form(track, tick)]
                self.assertEqual(sources, sorted(set(sources)))
        trims = tuple((name, "trim", 0, 1, ((0, 1),), 0, "stop") for name in ("z", "ol", "olda", "a", "p", "o", "old0"))
        self.assertEqual([source for source, _, _ in form(Track(1, trims), 0)],
                         ["a", "o", "ol", "old", "old0", "olda", "p", "z"])

    def test_the_numbers_of_a_played_row(self):
        """The forms give what comes if numbers are played instead of forms."""
        dice = Dice(5)
        for track in any_tracks(200, 6, many=4):
            number = Thrown(dice)
            told = [sum(number(source, place) * Fraction(*weight) for source, place, weight in form(track, tick))
                    for tick in range(track.length)]
            self.assertEqual(told, plain_numbers(track, number), str(track))


class Weights(FormCase):

    def test_in_lowest_terms_above_0_and_at_most_1(self):
        for track in any_tracks(300, 7, many=5):
            trims = [name for name in track.names if track[name][1] == "trim"]
            for tick in range(track.length):
                total = 0
                for source, _, weight in form(track, tick):
                    top, bottom = weight
                    self.assertEqual([type(weight), type(top), type(bottom)], [tuple, int, int])
                    told = Fraction(top, bottom)
                    self.assertEqual((told.numerator, told.denominator), weight)
                    self.assertTrue(0 < told <= 1)
                    total += told if source not in trims else 0
                self.assertEqual(total, 1)

    def test_each_tick_of_a_glide(self):
        track = Track(20, (("a", "touch", 0, 20, ((0, 1),), 11, "stop"),))
        self.assertEqual([weight_of(track, t, "a") for t in range(13)],
                         [(1, 1), (11, 12), (5, 6), (3, 4), (2, 3), (7, 12), (1, 2), (5, 12), (1, 3), (1, 4), (1, 6),
                          (1, 12), (0, 1)])

    def test_products(self):
        low, high = ("l", "touch", 0, 9, ((0, 1),), 3, "stop"), ("h", "touch", 0, 9, ((1, 2),), 2, "stop")
        track = Track(9, (low, high))
        self.assertEqual(form(track, 2), (("h", 1, (2, 3)), ("l", 0, (1, 6)), ("old", 2, (1, 6))))
        self.assertEqual(form(track, 3), (("h", 1, (1, 3)), ("l", 0, (1, 6)), ("old", 3, (1, 2))))

    def test_all_sources(self):
        for track in any_tracks(150, 8, many=5):
            for tick in range(track.length):
                weights = {source: weight for source, _, weight in plain_form(track.length, track.passes, tick)}
                for source in track.names + ("old", "nobody"):
                    wanted = weights.get(source, (0, 1))
                    self.assertEqual(weight_of(track, tick, source), wanted)
                    self.assertEqual(weight_of(source=source, track=track, tick=tick), wanted)

    def test_values_of_any_kind(self):
        one = ("old", 5, (1, 4))
        for source in (None, True, False, 0, 1, 4, -1, "", "x", "OLD", "old ", "a ", b"a", b"old", ("a",), ("old",), (),
                       one, [one], ["a"], [], {"a": 1}, {}, {"old"}, object(), Everything(), Track(12), Track, A,
                       10 ** 30, (1, 4)):
            with self.subTest(repr(source)):
                self.assertEqual(weight_of(Track(12, (A,)), 5, source), (0, 1))
                self.assertEqual(weight_of(Track(12), 5, source), (0, 1))

    def test_a_pass_that_is_not_in_the_form(self):
        self.assertEqual(weight_of(Track(12, (A, B)), 3, "b"), (0, 1))
        self.assertEqual(weight_of(Track(12, (A, B)), 6, "old"), (0, 1))
        self.assertEqual(weight_of(Track(12, (A, B)), 3, "a"), (1, 1))


class Laws(FormCase):

    def test_calls_change_nothing_and_are_the_same_each_time(self):
        for track in any_tracks(50, 9, many=4):
            text, passes = str(track), track.passes
            told = [form(track, tick) for tick in range(track.length)]
            self.assertEqual([form(Track.read(text), tick) for tick in range(track.length)], told)
            self.assertEqual((str(track), track.passes), (text, passes))

    def test_only_what_is_touched_comes_from_a_hand(self):
        dice = Dice(10)
        for _ in range(200):
            one = any_pass(dice, "a", 11)
            track = Track(11, (one,))
            for tick in range(11):
                for source, place, _ in form(track, tick):
                    if source == "a":
                        self.assertTrue(any(a <= place < b for a, b in one[4]))
                        self.assertLessEqual(place, tick)


if __name__ == "__main__":
    unittest.main()

"""Forms of great tracks: the first tick and the last one, ticks at and beside ends of passes, touches and glides."""

import unittest

from tests.plain import MODES, Dice, plain_form
from tests.samples import Case
from touchpasses.forms import form, pieces, weight_of
from touchpasses.tracks import Track

MOST = 10 ** 12
FULL = (1, 1)


def great_pass(dice, name, length):
    """A pass with its ticks all over a great track, some of them close to each other or to an end."""
    first = dice.one_of((0, 1, dice.upto(length // 3), length // 2 + dice.upto(300)))
    ticks = [first + dice.one_of((0, 1, 5))]
    while len(ticks) < 12:
        ticks.append(ticks[-1] + dice.one_of((1, 2, 40, 99, 100, 101, 102, 10 ** 6, 10 ** 9)))
    touches = tuple(zip(ticks[::2], ticks[1::2]))[:dice.upto(6)]
    last = max([first + 1] + [b for _, b in touches])
    last = dice.one_of((last, last + dice.upto(150), length))
    return (name, dice.one_of(MODES), first, last, touches, dice.one_of((0, 1, 99, 100, dice.upto(100))),
            dice.one_of(("stop", "on")))


def great_track(dice, many):
    return Track(MOST, tuple(great_pass(dice, name, MOST) for name in "abcdefgh"[:many]))


def edges(track):
    """The ticks at and beside which something can change."""
    found = [0, track.length - 1]
    for _, _, first, last, touches, glide, _ in track.passes:
        ends = [first, last] + [tick for pair in touches for tick in pair]
        ends += [until + glide for _, until in touches] + [until + glide // 2 for _, until in touches]
        found += [end + k for end in ends for k in (-2, -1, 0, 1, 2)]
    return sorted({tick for tick in found if 0 <= tick < track.length})


class Great(Case):

    def test_against_the_plain_playing(self):
        dice = Dice(81)
        for many in (1, 2, 3, 5, 8):
            for _ in range(12):
                track = great_track(dice, many)
                for tick in edges(track):
                    wanted = plain_form(track.length, track.passes, tick)
                    if form(track, tick) != wanted:
                        self.fail(f"{track} at {tick}: {form(track, tick)}, not {wanted}")

    def test_pieces_against_the_plain_playing(self):
        dice = Dice(82)
        for many in (1, 2, 4, 8):
            for _ in range(8):
                track = great_track(dice, many)
                told = pieces(track)
                self.assertEqual([told[0][0]] + [end for _, end, _ in told],
                                 [first for first, _, _ in told] + [MOST])
                ticks, at = edges(track), 0
                for tick in ticks:
                    while told[at][1] <= tick:
                        at += 1
                    shown = tuple((source, tick if place is None else place, weight)
                                  for source, place, weight in told[at][2])
                    self.assertEqual(shown, plain_form(MOST, track.passes, tick), (str(track), tick))

    def test_no_pass(self):
        for tick in (0, 1, MOST // 2, MOST - 1):
            self.assertEqual(form(Track(MOST), tick), (("old", tick, FULL),))

    def test_a_pass_over_the_whole_track(self):
        hold = Track(MOST, (("w", "write", 0, 1, (), 0, "on"),))
        hand = Track(MOST, (("w", "write", 0, MOST, ((0, MOST),), 0, "stop"),))
        for tick in (0, 1, MOST // 2, MOST - 1):
            self.assertEqual(form(hold, tick), (("old", 0, FULL),))
            self.assertEqual(form(hand, tick), (("w", tick, FULL),))

    def test_the_last_ticks(self):
        def told(mode, glide, tail, last=MOST):
            one = ("a", mode, MOST - 4, last, ((MOST - 3, MOST - 2),), glide, tail)
            return [form(Track(MOST, (one,)), MOST - k) for k in (5, 4, 3, 2, 1)]
        hand = (("a", MOST - 3, FULL),)
        olds = [(("old", MOST - k, FULL),) for k in (5, 4, 3, 2, 1)]
        self.assertEqual(told("write", 0, "stop"), olds[:1] + [(("old", MOST - 4, FULL),)] + [hand] * 3)
        self.assertEqual(told("latch", 0, "stop"), olds[:2] + [hand] * 3)
        self.assertEqual(told("latch", 0, "stop", MOST - 1), olds[:2] + [hand] * 2 + olds[4:])
        self.assertEqual(told("latch", 0, "on", MOST - 1), olds[:2] + [hand] * 3)
        glided = [(("a", MOST - 3, (100, 101)), ("old", MOST - 2, (1, 101))),
                  (("a", MOST - 3, (99, 101)), ("old", MOST - 1, (2, 101)))]
        self.assertEqual(told("touch", 100, "stop"), olds[:2] + [hand] + glided)
        self.assertEqual(told("touch", 100, "stop", MOST - 2), olds[:2] + [hand] + olds[3:])
        self.assertEqual(told("touch", 100, "on", MOST - 2), olds[:2] + [hand] + glided)
        self.assertEqual(told("trim", 1, "stop")[3:], [(("a", MOST - 3, (1, 2)), ("old", MOST - 2, FULL)), olds[4]])

    def test_the_end_of_a_glide(self):
        until = 5 * 10 ** 11
        for mode in ("touch", "trim"):
            track = Track(MOST, (("a", mode, 3, MOST, ((4, until),), 100, "stop"),))
            self.assertEqual([weight_of(track, until + k, "a") for k in (-1, 0, 1, 98, 99, 100, 101)],
                             [FULL, (100, 101), (99, 101), (2, 101), (1, 101), (0, 1), (0, 1)])
            self.assertEqual(form(track, until + 100), (("old", until + 100, FULL),))
            self.assertEqual(form(track, until + 99)[0], ("a", until - 1, (1, 101)))

    def test_eight_glides_over_one_another(self):
        passes = tuple((name, "touch", 10 ** 11, MOST, ((10 ** 11 + k, 10 ** 11 + k + 1),), 100, "on")
                       for k, name in enumerate("abcdefgh"))
        track = Track(MOST, passes)
        told = form(track, 10 ** 11 + 50)
        self.assertEqual(told, plain_form(MOST, passes, 10 ** 11 + 50))
        self.assertEqual(len(told), 9)
        self.assertEqual(told[7], ("h", 10 ** 11 + 7, (58, 101)))


if __name__ == "__main__":
    unittest.main()

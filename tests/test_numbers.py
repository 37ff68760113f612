"""number_at: forms with numbers put in."""

import unittest
from fractions import Fraction

from tests.plain import Dice, Thrown, any_tracks, plain_numbers
from tests.samples import A, B, Case
from touchpasses.errors import NotKnown
from touchpasses.forms import form, number_at
from touchpasses.tracks import Track


def known_of(track, tick, number):
    """The known numbers of a form, by a function from a source and a tick."""
    return tuple((source, place, number(source, place)) for source, place, _ in form(track, tick))


class Numbers(Case):

    def gives(self, track, tick, known, wanted):
        for told in (number_at(track, tick, known), number_at(known=known, tick=tick, track=track)):
            self.assertEqual((type(told), [type(part) for part in told]), (tuple, [int, int]))
            self.assertEqual(told, wanted)

    def test_the_example_of_the_document(self):
        self.gives(Track(12, (A,)), 5, (("a", 4, 8), ("old", 5, -4)), (5, 1))

    def test_lowest_terms(self):
        track = Track(12, (A,))
        for a, old, wanted in ((1, 0, (3, 4)), (2, 0, (3, 2)), (4, 0, (3, 1)), (0, 0, (0, 1)), (0, 1, (1, 4)),
                               (0, 2, (1, 2)), (1, 1, (1, 1)), (-1, 0, (-3, 4)), (-2, 0, (-3, 2)), (-1, 3, (0, 1)),
                               (1, -3, (0, 1)), (-1, 1, (-1, 2)), (1, -1, (1, 2)), (-5, -5, (-5, 1)),
                               (10 ** 30, 0, (3 * 10 ** 30 // 4, 1)), (10 ** 38 + 1, 0, (3 * 10 ** 38 + 3, 4)),
                               (-10 ** 38 - 1, 0, (-3 * 10 ** 38 - 3, 4)), (10 ** 38, -3 * 10 ** 38, (0, 1))):
            with self.subTest(a=a, old=old):
                self.gives(track, 5, (("a", 4, a), ("old", 5, old)), wanted)

    def test_each_order_of_what_is_known(self):
        track = Track(12, (A,))
        self.gives(track, 5, (("old", 5, -4), ("a", 4, 8)), (5, 1))
        self.gives(track, 5, (("z", 0, 1), ("old", 5, -4), ("a", 4, 8), ("b", 7, 9)), (5, 1))

    def test_more_than_is_needed(self):
        track = Track(12, (A,))
        more = (("a", 3, 100), ("a", 5, 100), ("old", 4, 100), ("old", 10 ** 12, 100), ("a", 10 ** 20, 7), ("", 0, 1),
                ("no source", 4, 5), ("A", 4, 100), ("b", 4, 100), ("old", 0, 0))
        self.gives(track, 5, more + (("a", 4, 8), ("old", 5, -4)), (5, 1))
        self.gives(track, 5, (("a", 4, 8), ("old", 5, -4)) + more, (5, 1))
        self.gives(track, 0, more, (0, 1))

    def test_many_known_numbers(self):
        known = tuple(("old", tick, tick) for tick in range(2000)) + tuple(("a", tick, -tick) for tick in range(2000))
        track = Track(12, (A,))
        self.gives(track, 5, known, (-3 * 4 + 5, 4))
        self.gives(track, 11, known, (11, 1))

    def test_played_numbers(self):
        dice = Dice(71)
        for track in any_tracks(250, 70, many=4):
            number = Thrown(dice)
            played = plain_numbers(track, number)
            for tick in range(track.length):
                wanted = Fraction(played[tick])
                with self.subTest(track=str(track), tick=tick):
                    self.gives(track, tick, known_of(track, tick, number), (wanted.numerator, wanted.denominator))
                    everything = tuple(key + (value,) for key, value in number.known.items())
                    self.gives(track, tick, everything, (wanted.numerator, wanted.denominator))

    def test_numbers_that_are_all_the_same(self):
        for track in any_tracks(150, 72, many=5, modes=("write", "latch", "touch")):
            for tick in range(track.length):
                for same in (0, 1, -7, 10 ** 30):
                    self.gives(track, tick, known_of(track, tick, lambda source, place: same), (same, 1))

    def test_a_trim_adds(self):
        track = Track(9, (("t", "trim", 0, 9, ((2, 3),), 2, "stop"),))
        for tick, wanted in ((1, (10, 1)), (2, (40, 1)), (3, (30, 1)), (4, (20, 1)), (5, (10, 1))):
            self.gives(track, tick, (("t", 2, 30),) + tuple(("old", place, 10) for place in range(9)), wanted)

    def test_great_ticks(self):
        most = 10 ** 12
        track = Track(most, (("t", "touch", most - 6, most, ((most - 5, most - 4),), 3, "stop"),))
        self.gives(track, most - 3, (("t", most - 5, 10 ** 12), ("old", most - 3, -10 ** 12)), (0, 1))
        self.gives(track, most - 4, (("t", most - 5, 1), ("old", most - 4, 2)), (5, 4))

    def test_a_known_number_does_not_change(self):
        known = (("a", 4, 8), ("old", 5, -4))
        self.assertEqual(number_at(Track(12, (A,)), 5, known), number_at(Track(12, (A,)), 5, known))
        self.assertEqual(known, (("a", 4, 8), ("old", 5, -4)))


class Missing(Case):

    def misses(self, track, tick, known, pair):
        for found in (self.refused(NotKnown, number_at, track, tick, known),
                      self.refused(NotKnown, number_at, known=known, tick=tick, track=track)):
            self.assertEqual((type(found.given), found.given), (tuple, pair))

    def test_the_first_one_of_the_form(self):
        track = Track(12, (A,))
        self.misses(track, 5, (), ("a", 4))
        self.misses(track, 5, (("a", 4, 0),), ("old", 5))
        self.misses(track, 5, (("old", 5, 0),), ("a", 4))
        self.misses(track, 0, (), ("old", 0))
        self.misses(Track(12, (A, B)), 6, (), ("b", 6))

    def test_others_do_not_count(self):
        track = Track(12, (A,))
        self.misses(track, 5, (("a", 5, 0), ("old", 5, 0)), ("a", 4))
        self.misses(track, 5, (("a", 4, 0), ("old", 4, 0), ("old", 6, 0)), ("old", 5))
        self.misses(track, 5, (("b", 4, 0), ("A", 4, 0), ("a ", 4, 0)), ("a", 4))

    def test_each_source_of_a_form(self):
        for track in any_tracks(60, 73, many=4):
            for tick in range(track.length):
                known = known_of(track, tick, lambda source, place: 3)
                for at, (source, place, _) in enumerate(known):
                    self.misses(track, tick, known[:at] + known[at + 1:], (source, place))
                    self.misses(track, tick, known[:at], (source, place))
                    self.misses(track, tick, known[at + 1:], known[0][:2])


if __name__ == "__main__":
    unittest.main()

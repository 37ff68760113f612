"""needless, least_parts, swaps and orders, counted against trying all sets and all orders."""

import unittest
from itertools import combinations, permutations

from tests.plain import MODES, Dice, any_tracks, plain_forms
from tests.samples import A, B, C, D, EIGHT, NO_TRACKS, Case
from touchpasses import errors, orders as orders_file
from touchpasses.errors import NotATrack, TooMany
from touchpasses.orders import least_parts, needless, orders, swaps
from touchpasses.tracks import Track

MOST = 10 ** 12
E, F = ("e", "latch", 9, 12, ((10, 11),), 0, "stop"), ("f", "write", 9, 12, ((9, 12),), 0, "stop")


def hand(name, first, last, mode="touch", glide=0):
    """A pass that is touched from its first tick to its last one."""
    return (name, mode, first, last, ((first, last),), glide, "stop")


def row_with(track, places):
    """The forms of the passes with these indexes, in this order."""
    return plain_forms(Track(track.length, tuple(track.passes[k] for k in places)))


def tried_sets(track):
    """All least sets of passes that do all, by trying every one."""
    many, whole = len(track), plain_forms(track)
    right = [part for size in range(many + 1) for part in combinations(range(many), size)
             if row_with(track, part) == whole]
    return tuple(part for part in right if not any(set(less) < set(part) for less in right))


def tried_orders(track):
    whole = plain_forms(track)
    return sum(1 for places in permutations(range(len(track))) if row_with(track, places) == whole)


def tried_swaps(track):
    whole, many = plain_forms(track), len(track)
    turned = [[*range(k), k + 1, k, *range(k + 2, many)] for k in range(many - 1)]
    return tuple(k for k, places in enumerate(turned) if row_with(track, places) == whole)


def tried_needless(track):
    whole = plain_forms(track)
    return tuple(sorted(name for name in track.names if plain_forms(track.without(name)) == whole))


class OrderCase(Case):

    def tells(self, call, track, wanted):
        for told in (call(track), call(track=track)):
            self.assertEqual((type(told), told), (type(wanted), wanted), f"{call.__name__} of {track}")

    def tells_all(self, track, needs_no, least, changes_with, count):
        self.tells(needless, track, needs_no)
        self.tells(least_parts, track, least)
        self.tells(swaps, track, changes_with)
        self.tells(orders, track, count)

    def tells_as_tried(self, track):
        self.tells_all(track, tried_needless(track), tried_sets(track), tried_swaps(track), tried_orders(track))


class WrittenOut(OrderCase):

    def test_no_pass(self):
        for length in (1, 12, MOST):
            self.tells_all(Track(length), (), ((),), (), 1)

    def test_one_pass(self):
        self.tells_all(Track(12, (A,)), (), ((0,),), (), 1)
        self.tells_all(Track(12, (("a", "latch", 0, 9, (), 0, "stop"),)), ("a",), ((),), (), 1)
        self.tells_all(Track(12, (("a", "write", 11, 12, (), 0, "stop"),)), ("a",), ((),), (), 1)
        self.tells_all(Track(12, (("a", "write", 10, 12, (), 0, "stop"),)), (), ((0,),), (), 1)

    def test_passes_apart(self):
        row = tuple(hand(name, 2 * k, 2 * k + 1) for k, name in enumerate("abcdef"))
        for many, count in ((2, 2), (3, 6), (4, 24), (5, 120), (6, 720)):
            self.tells_all(Track(12, row[:many]), (), (tuple(range(many)),), tuple(range(many - 1)), count)

    def test_passes_over_one_another(self):
        row = tuple(hand(name, k, 12) for k, name in enumerate("abcdef"))
        self.tells_all(Track(12, row), (), ((0, 1, 2, 3, 4, 5),), (), 1)
        # The other way round the last pass covers all others, which can stand below it in any order.
        self.tells_all(Track(12, row[::-1]), ("b", "c", "d", "e", "f"), ((5,),), (0, 1, 2, 3), 120)

    def test_trims_in_any_order(self):
        row = tuple(hand(name, k, 6 + k, "trim", 3) for k, name in enumerate("abcdef"))
        self.tells_all(Track(12, row), (), ((0, 1, 2, 3, 4, 5),), (0, 1, 2, 3, 4), 720)

    def test_several_least_sets(self):
        """Two passes hold the same tick; one of them is enough, whichever it is."""
        low, high = ("l", "write", 3, 8, (), 0, "stop"), ("h", "write", 3, 8, (), 5, "stop")
        self.tells_all(Track(9, (low, high)), ("h", "l"), ((0,), (1,)), (0,), 2)
        self.tells(least_parts, Track(9, (low, hand("a", 0, 2), high)), ((0, 1), (1, 2)))
        self.tells(needless, Track(9, (low, hand("a", 0, 2), high)), ("h", "l"))

    def test_least_sets_of_unlike_sizes(self):
        """Two short holds do what a long one does, as its tick FROM is theirs as well."""
        long = ("l", "write", 1, 9, (), 0, "stop")
        short = ("s", "write", 1, 5, (), 0, "stop")
        onward = ("o", "write", 4, 9, (), 0, "stop")
        self.tells(least_parts, Track(9, (long, short, onward)), ((0,), (1, 2)))
        self.tells(least_parts, Track(9, (short, onward, long)), ((2,), (0, 1)))
        self.tells_as_tried(Track(9, (short, onward, long)))

    def test_a_set_that_does_all_and_a_greater_one_that_does_not(self):
        """What the trim adds is covered again by the hold, but not without it."""
        row = (("z", "latch", 0, 6, ((0, 1),), 0, "stop"), hand("x", 2, 4, "trim"), ("y", "write", 0, 6, (), 0, "stop"))
        self.tells(least_parts, Track(6, row), ((0,),))
        self.tells(needless, Track(6, row), ("x",))
        self.tells_as_tried(Track(6, row))

    def test_a_pass_that_is_not_heard_and_not_needless(self):
        row = (("w", "write", 1, 6, (), 0, "stop"), hand("x", 0, 2))
        self.tells_all(Track(6, row), (), ((0, 1),), (), 1)

    def test_needless_names_ascend(self):
        row = tuple(("zyxw"[k], "trim", 0, 9, (), 0, "stop") for k in range(4))
        self.tells_all(Track(9, row), ("w", "x", "y", "z"), ((),), (0, 1, 2), 24)

    def test_swaps(self):
        self.tells(swaps, Track(12, (A, B, E)), (1,))
        self.tells(swaps, Track(12, (A, E, B)), (0, 1))
        self.tells(swaps, Track(12, (E, A, B)), (0,))

    def test_eight_passes(self):
        row = tuple(hand(name, k, k + 1) for k, name in enumerate("hgfedcba"))
        track = Track(8, row)
        self.tells(needless, track, ())
        self.tells(least_parts, track, ((0, 1, 2, 3, 4, 5, 6, 7),))
        self.tells(swaps, track, (0, 1, 2, 3, 4, 5, 6))
        covered = Track(8, row[:7] + (hand("x", 0, 8),))
        self.tells(needless, covered, ("b", "c", "d", "e", "f", "g", "h"))
        self.tells(least_parts, covered, ((7,),))
        self.tells(swaps, covered, (0, 1, 2, 3, 4, 5))

    def test_the_example_of_the_document(self):
        two, apart, over = Track(12, (A, B)), Track(12, (A, E)), Track(12, (A, E, F))
        told = [orders(two), orders(apart), swaps(apart), needless(over), least_parts(over), orders(over), swaps(over)]
        self.assertEqual(told, [1, 2, (0,), ("e",), ((0, 2),), 3, (0,)])


class Tried(OrderCase):

    def test_up_to_four_passes(self):
        for many in (1, 2, 3, 4):
            for track in any_tracks(120, 130 + many, many=many):
                self.tells_as_tried(track)

    def test_writes(self):
        for track in any_tracks(150, 140, many=3, length=8, modes=("write", "write", "latch")):
            self.tells_as_tried(track)
        for track in any_tracks(60, 141, many=4, length=6, modes=("write", "write", "write", "touch")):
            self.tells_as_tried(track)

    def test_holds_only(self):
        """Writes without touches: many orders, many sets."""
        dice = Dice(142)
        for _ in range(120):
            row = []
            for name in "abcd":
                first = dice.upto(5)
                row.append((name, "write", first, first + 1 + dice.upto(6 - first), (), 0, dice.one_of(("stop", "on"))))
            self.tells_as_tried(Track(7, tuple(row)))

    def test_trims_and_touches(self):
        for track in any_tracks(80, 143, many=4, length=8, modes=("trim", "trim", "trim", "touch")):
            self.tells_as_tried(track)

    def test_five_and_six_passes(self):
        for track in any_tracks(12, 144, many=5, length=8) + any_tracks(4, 145, many=6, length=8):
            self.tells_as_tried(track)

    def test_seven_and_eight_passes(self):
        for track in any_tracks(4, 146, many=7, length=6) + any_tracks(3, 147, many=8, length=6):
            self.tells(needless, track, tried_needless(track))
            self.tells(least_parts, track, tried_sets(track))
            self.tells(swaps, track, tried_swaps(track))


class Great(OrderCase):

    def test_one_tick_of_a_great_track(self):
        half = MOST // 2
        low, high = hand("l", 0, half), hand("h", half - 1, MOST)
        self.tells_all(Track(MOST, (low, high)), (), ((0, 1),), (), 1)
        self.tells_all(Track(MOST, (low, hand("h", half, MOST))), (), ((0, 1),), (0,), 2)
        self.tells_all(Track(MOST, (low, hand("h", 1, MOST))), (), ((0, 1),), (), 1)
        self.tells_all(Track(MOST, (low, hand("h", 0, MOST))), ("l",), ((1,),), (), 1)

    def test_glides_that_just_meet(self):
        a = ("a", "touch", 0, MOST, ((5, 10 ** 9),), 100, "stop")
        for first, count in ((10 ** 9 + 99, 1), (10 ** 9 + 100, 2)):
            track = Track(MOST, (a, ("b", "touch", 7, MOST, ((first, first + 5),), 100, "stop")))
            self.tells_all(track, (), ((0, 1),), (0,) if count == 2 else (), count)

    def test_all_limits_at_once(self):
        for mode in MODES:
            row = []
            for k, name in enumerate("abcdefgh"):
                first = 10 ** 10 * (k + 1)
                touches = tuple((first + 300 * j, first + 300 * j + 100) for j in range(6))
                row.append((name, mode, first, first + 10 ** 6, touches, 100, "stop"))
            track = Track(MOST, tuple(row))
            self.tells(needless, track, ())
            self.tells(least_parts, track, (tuple(range(8)),))
            self.tells(swaps, track, tuple(range(7)))
            self.tells(orders, Track(MOST, tuple(row[:6])), 720)
            self.tells(orders, Track(MOST, tuple(row[:5]) + (hand("h", 0, MOST),)), 120)


class Refused(OrderCase):

    def test_no_tracks(self):
        for value in NO_TRACKS:
            for call in (needless, least_parts, swaps, orders):
                with self.subTest(call=call.__name__, value=repr(value)):
                    self.refused_given(NotATrack, value, call, value)
                    self.refused_given(NotATrack, value, call, track=value)

    def test_more_than_six_passes(self):
        for many in (7, 8):
            track = Track(12, EIGHT[:many])
            for found in (self.refused(TooMany, orders, track), self.refused(TooMany, orders, track=track)):
                self.assertEqual((type(found.most), found.most), (int, 6))
                self.assertIsInstance(found, errors.NoAnswer)

    def test_just_six_passes(self):
        self.tells(orders, Track(12, EIGHT[:6]), 1)
        self.tells(orders, Track(12, (A, B, C, D, E, F)), tried_orders(Track(12, (A, B, C, D, E, F))))

    def test_the_interface_stands_in_the_file(self):
        for call in (needless, least_parts, swaps, orders):
            self.assertEqual(call.__module__, orders_file.__name__)


if __name__ == "__main__":
    unittest.main()

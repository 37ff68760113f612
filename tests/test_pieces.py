"""pieces: runs that tell the forms of all ticks, each as long as it can be."""

import unittest

from tests.plain import MODES, any_tracks, each_pass, plain_forms
from tests.samples import A, B, C, D, EIGHT, Case
from touchpasses.forms import form, pieces
from touchpasses.tracks import Track

FULL = (1, 1)


def is_run(forms, first, end):
    """Whether a stretch is a run, by the words of the document."""
    kinds = {tuple((source, weight) for source, _, weight in forms[t]) for t in range(first, end)}
    if len(kinds) != 1:
        return False
    for column in range(len(forms[first])):
        places = [forms[t][column][1] for t in range(first, end)]
        if places != list(range(first, end)) and len(set(places)) != 1:
            return False
    return True


def form_in(piece, tick):
    """The form that a piece tells of one of its ticks."""
    return tuple((source, tick if place is None else place, weight) for source, place, weight in piece[2])


class PieceCase(Case):

    def are_pieces(self, track):
        forms = plain_forms(track)
        with self.subTest(str(track)):
            told = pieces(track)
            self.assertIs(type(told), tuple)
            self.assertEqual([t for first, end, _ in told for t in range(first, end)], list(range(track.length)))
            for piece in told:
                first, end, terms = piece
                self.assertEqual([type(piece), type(first), type(end), type(terms)], [tuple, int, int, tuple])
                self.assertLess(first, end)
                self.assertEqual([form_in(piece, t) for t in range(first, end)], forms[first:end])
                self.assertTrue(is_run(forms, first, end))
                # One tick more would be no run.
                self.assertFalse(end < track.length and is_run(forms, first, end + 1))
                if end == first + 1:
                    self.assertEqual(terms, forms[first])
            self.assertEqual(pieces(track=track), told)


class WrittenOut(PieceCase):

    def test_no_pass(self):
        for length in (2, 3, 12, 10 ** 12):
            self.assertEqual(pieces(Track(length)), ((0, length, (("old", None, FULL),)),))
        self.assertEqual(pieces(Track(1)), ((0, 1, (("old", 0, FULL),)),))

    def test_passes_that_write_nothing(self):
        for mode in ("latch", "touch", "trim"):
            self.assertEqual(pieces(Track(9, (("a", mode, 2, 5, (), 7, "on"),))), ((0, 9, (("old", None, FULL),)),))
        self.assertEqual(pieces(Track(9, (("a", "write", 8, 9, (), 7, "on"),))), ((0, 9, (("old", None, FULL),)),))
        self.assertEqual(pieces(Track(9, (("a", "write", 3, 4, (), 0, "stop"),))), ((0, 9, (("old", None, FULL),)),))

    def test_a_tick_alone_and_a_tick_that_is_held(self):
        held = Track(9, (("a", "write", 0, 9, ((0, 1),), 0, "stop"),))
        self.assertEqual(pieces(held), ((0, 9, (("a", 0, FULL),)),))
        alone = Track(9, (("a", "touch", 4, 9, ((4, 5),), 0, "stop"),))
        self.assertEqual(pieces(alone), ((0, 4, (("old", None, FULL),)), (4, 5, (("a", 4, FULL),)),
                                         (5, 9, (("old", None, FULL),))))
        several = Track(9, (("a", "touch", 4, 9, ((4, 6),), 0, "stop"),))
        self.assertEqual(pieces(several)[1], (4, 6, (("a", None, FULL),)))

    def test_a_hand_that_holds_behind_its_touch(self):
        track = Track(9, (("a", "latch", 0, 9, ((2, 5),), 0, "stop"),))
        self.assertEqual(pieces(track), ((0, 2, (("old", None, FULL),)), (2, 5, (("a", None, FULL),)),
                                         (5, 9, (("a", 4, FULL),))))
        track = Track(9, (("a", "latch", 0, 9, ((2, 3), (4, 5)), 0, "stop"),))
        self.assertEqual(pieces(track)[1:], ((2, 4, (("a", 2, FULL),)), (4, 9, (("a", 4, FULL),))))

    def test_a_held_curve(self):
        """The tick FROM belongs to the piece ahead if the curve goes on, otherwise to what is held."""
        hold = ("w", "write", 4, 8, (), 0, "stop")
        self.assertEqual(pieces(Track(9, (hold,))), ((0, 5, (("old", None, FULL),)), (5, 8, (("old", 4, FULL),)),
                                                     (8, 9, (("old", 8, FULL),))))
        under = ("u", "touch", 2, 4, ((2, 4),), 0, "stop")
        self.assertEqual(pieces(Track(9, (under, hold)))[2:],
                         ((4, 8, (("old", 4, FULL),)), (8, 9, (("old", 8, FULL),))))

    def test_pieces_that_end_where_only_one_source_changes(self):
        trim = ("t", "trim", 0, 9, ((2, 4), (6, 7)), 0, "stop")
        old = ("old", None, FULL)
        self.assertEqual(pieces(Track(9, (trim,))),
                         ((0, 2, (old,)), (2, 4, (old, ("t", None, FULL))), (4, 6, (old,)),
                          (6, 7, (("old", 6, FULL), ("t", 6, FULL))), (7, 9, (old,))))

    def test_passes_with_ends_that_are_covered(self):
        cover = ("c", "latch", 0, 20, ((0, 20),), 0, "stop")
        for mode in MODES:
            under = ("a", mode, 2, 15, ((3, 5), (8, 9)), 3, "stop")
            self.assertEqual(pieces(Track(20, (under, cover))), ((0, 20, (("c", None, FULL),)),))

    def test_passes_of_one_kind_side_by_side(self):
        """Where the passes change and the forms do not, the piece goes on."""
        low, high = ("l", "latch", 0, 5, ((0, 5),), 0, "stop"), ("h", "trim", 2, 7, (), 0, "stop")
        self.assertEqual(pieces(Track(7, (low, high))), ((0, 5, (("l", None, FULL),)), (5, 7, (("old", None, FULL),))))

    def test_the_example_of_the_document(self):
        two = Track(12, (A, B))
        self.assertEqual([pieces(two)[1:], pieces(two)[0]], [
            ((3, 5, (("a", None, FULL),)), (5, 6, (("a", 4, (3, 4)), ("old", 5, (1, 4)))), (6, 10, (("b", 6, FULL),)),
             (10, 12, (("old", None, FULL),))), (0, 3, (("old", None, FULL),))])
        self.assertEqual(pieces(Track(12, (D,))), ((0, 5, (("old", None, FULL),)), (5, 6, (("old", 4, FULL),)),
                                                   (6, 12, (("d", 6, FULL),))))
        self.assertEqual(len(pieces(Track(12, (C,)))), 4)


class AgainstForms(PieceCase):

    def test_each_pass_of_five_ticks(self):
        for one in each_pass(5, ((0, "stop"), (2, "on"))):
            self.are_pieces(Track(5, (one,)))

    def test_several_passes(self):
        for many in range(9):
            for track in any_tracks(80, 40 + many, many=many):
                self.are_pieces(track)

    def test_writes_and_latches(self):
        for many in (1, 2, 3, 4):
            for track in any_tracks(150, 50 + many, many=many, length=9, modes=("write", "write", "latch")):
                self.are_pieces(track)

    def test_trims(self):
        for track in any_tracks(100, 60, many=3, length=12, modes=("trim", "trim", "touch")):
            self.are_pieces(track)

    def test_long_glides(self):
        for mode in MODES:
            for glide in (99, 100):
                for tail in ("stop", "on"):
                    self.are_pieces(Track(130, (("a", mode, 3, 110, ((5, 9), (60, 61)), glide, tail),)))

    def test_eight_passes(self):
        self.are_pieces(Track(12, EIGHT))
        self.are_pieces(Track(12, (A, B, C, D)))


class Great(PieceCase):

    def test_all_ticks_of_a_great_track(self):
        most = 10 ** 12
        half = most // 2
        track = Track(most, (("a", "latch", 1, half, ((half - 9, half - 2),), 0, "stop"),
                             ("t", "touch", half - 5, most, ((half - 4, half - 3),), 2, "on"),
                             ("w", "write", most - 7, most, ((most - 1, most),), 100, "stop")))
        old = ("old", None, FULL)
        self.assertEqual(pieces(track), (
            (0, half - 9, (old,)),
            (half - 9, half - 4, (("a", None, FULL),)),
            (half - 4, half - 3, (("t", half - 4, FULL),)),
            (half - 3, half - 2, (("a", half - 3, (1, 3)), ("t", half - 4, (2, 3)))),
            (half - 2, half - 1, (("a", half - 3, (2, 3)), ("t", half - 4, (1, 3)))),
            (half - 1, half, (("a", half - 3, FULL),)),
            (half, most - 6, (old,)),
            (most - 6, most - 1, (("old", most - 7, FULL),)),
            (most - 1, most, (("w", most - 1, FULL),))))

    def test_all_limits_at_once(self):
        """Eight passes, six touches each, glides of 100: each tick of the glides is a piece of its own."""
        most, step = 10 ** 12, 10 ** 9
        passes = []
        for k, name in enumerate("abcdefgh"):
            first = k * 10 * step
            touches = tuple((first + j * step, first + j * step + 500) for j in range(6))
            passes.append((name, "touch", first, first + 9 * step, touches, 100, "stop"))
        track = Track(most, tuple(passes))
        told = pieces(track)
        self.assertEqual(len(told), 8 * 6 * (1 + 100 + 1))
        self.assertEqual([told[0][0], told[-1][1]], [0, most])
        self.assertEqual([first for first, _, _ in told[1:]], [end for _, end, _ in told[:-1]])
        for piece in told:
            first, end, terms = piece
            for tick in {first, (first + end) // 2, end - 1}:
                self.assertEqual(form_in(piece, tick), form(track, tick))
            self.assertTrue(end - first > 1 or all(place is not None for _, place, _ in terms))
        self.assertEqual(told[0], (0, 500, (("a", None, FULL),)))
        self.assertEqual(told[1], (500, 501, (("a", 499, (100, 101)), ("old", 500, (1, 101)))))
        self.assertEqual(told[100], (599, 600, (("a", 499, (1, 101)), ("old", 599, (100, 101)))))
        self.assertEqual(told[101], (600, step, (("old", None, FULL),)))


if __name__ == "__main__":
    unittest.main()

"""certify_form, certify_pair, certify and certify_reach: papers that the checker accepts."""

import unittest

from tests.plain import NAMES, Dice, any_change, any_tracks, plain_forms
from tests.plain_wishes import any_wish, plain_failing, plain_holds, plain_reach
from tests.samples import A, B, C, NO_TRACKS, NO_TUPLES, Case
from tests.test_form_errors import NO_TICKS
from tests.test_great import great_track
from tests.test_reach import any_bounds
from tests.wish_samples import BEYOND, NO_WISHES, WISHES, with_stretches
from touchpasses import certificates
from touchpasses.certificates import certify, certify_form, certify_pair, certify_reach
from touchpasses.checker import accepts
from touchpasses.errors import InvalidBounds, InvalidTick, InvalidWish, NotATrack, OtherLength
from touchpasses.forms import form
from touchpasses.mends import holds
from touchpasses.tracks import Track

MOST = 10 ** 12
ONE, TWO = Track(12, (A,)), Track(12, (A, B))
TEXT, OTHER = str(ONE), str(TWO)
BOUNDS = (("a", -10, 20), ("old", 0, 5))
TICKS = {"unlike", "fails", "comes"}


class PaperCase(Case):

    def is_paper(self, paper):
        """A pair that the checker accepts, with a certificate of the right kind."""
        self.assertEqual((type(paper), len(paper)), (tuple, 2))
        claim, certificate = paper
        self.assertIs(type(certificate), int if claim[0] in TICKS else tuple)
        self.assertIs(accepts(claim, certificate), True, paper)
        return paper

    def certifies(self, wanted, call, *args, **named_args):
        """The same by position and by name: this paper, or a paper with this claim and one of these ticks."""
        claim, right = wanted
        for paper in (call(*args), call(**named_args)):
            self.is_paper(paper)
            self.assertEqual(paper[0], claim)
            if right == ():
                self.assertEqual(paper[1], ())
            else:
                self.assertIn(paper[1], right)


class Forms(PaperCase):

    def certifies_form(self, track, tick):
        self.certifies((("form", str(track), tick, form(track, tick)), ()), certify_form, track, tick,
                       tick=tick, track=track)

    def test_each_tick(self):
        for track in (ONE, TWO, Track(1), Track(12, (C,))):
            for tick in range(track.length):
                self.certifies_form(track, tick)
        self.assertEqual(certify_form(ONE, 5), (("form", TEXT, 5, (("a", 4, (3, 4)), ("old", 5, (1, 4)))), ()))

    def test_great_tracks(self):
        for tick in (0, 7, 5 * 10 ** 11, MOST - 1):
            self.certifies_form(great_track(Dice(901), 8), tick)

    def test_refused(self):
        for value in NO_TRACKS:
            self.refused_given(NotATrack, value, certify_form, value, 0)
            self.refused_given(NotATrack, value, certify_form, tick=None, track=value)
        for value in NO_TICKS:
            self.refused_given(InvalidTick, value, certify_form, ONE, value)
            self.refused_given(InvalidTick, value, certify_form, tick=value, track=ONE)


class Pairs(PaperCase):

    def certifies_pair(self, one, other):
        wrong = [tick for tick in range(one.length) if form(one, tick) != form(other, tick)]
        claim = ("unlike" if wrong else "same", str(one), str(other))
        self.certifies((claim, wrong if wrong else ()), certify_pair, one, other, other=other, one=one)

    def test_same_and_unlike(self):
        nothing = ONE.put(("n", "latch", 0, 9, (), 4, "on"))
        for one in (ONE, TWO, nothing, Track(12)):
            for other in (ONE, TWO, nothing, Track(12)):
                self.certifies_pair(one, other)
        self.assertEqual(certify_pair(ONE, nothing), (("same", TEXT, str(nothing)), ()))
        self.assertEqual(certify_pair(ONE, TWO)[0], ("unlike", TEXT, OTHER))

    def test_short_tracks(self):
        dice = Dice(911)
        for track in any_tracks(60, 912):
            self.certifies_pair(track, any_change(dice, track))

    def test_great_tracks(self):
        dice = Dice(913)
        for _ in range(4):
            one = great_track(dice, 6)
            self.assertEqual(self.is_paper(certify_pair(one, one))[0][0], "same")
            self.is_paper(certify_pair(one, one.moved("a", 5)))

    def test_refused(self):
        for value in NO_TRACKS:
            self.refused_given(NotATrack, value, certify_pair, value, ONE)
            self.refused_given(NotATrack, value, certify_pair, value, None)
            self.refused_given(NotATrack, value, certify_pair, ONE, value)
            self.refused_given(NotATrack, value, certify_pair, other=value, one=ONE)
            self.refused_given(NotATrack, value, certify_pair, other=ONE, one=value)
        for other in (Track(11), Track(13, (A,)), Track(MOST)):
            self.refused_given(OtherLength, other, certify_pair, ONE, other)
            self.refused_given(OtherLength, other, certify_pair, other=other, one=ONE)
            self.refused_given(OtherLength, ONE, certify_pair, other, ONE)


class Wishes(PaperCase):

    def certifies_wish(self, track, wish):
        if wish[0] == "like" and Track.read(wish[1]).length != track.length:
            self.assertIsNone(certify(track, wish))
            self.assertIsNone(certify(wish=wish, track=track))
            return
        if plain_holds(track, wish):
            wanted = ("holds", str(track), wish), ()
        elif wish[0] == "like":
            one, other = plain_forms(track), plain_forms(Track.read(wish[1]))
            wanted = ("unlike", str(track), wish[1]), [at for at in range(len(one)) if one[at] != other[at]]
        else:
            wanted = ("fails", str(track), wish), plain_failing(track, wish)
        self.certifies(wanted, certify, track, wish, wish=wish, track=track)

    def test_each_wish(self):
        for wish in WISHES:
            for track in (Track(12), ONE, TWO):
                self.certifies_wish(track, wish)

    def test_each_word(self):
        for wish, word in ((("heard", "a", 3, 5), "holds"), (("heard", "a", 3, 6), "fails"), (("kept", 0, 3), "holds"),
                           (("kept", 0, 4), "fails"), (("flat", 6, 10), "holds"), (("flat", 5, 7), "fails"),
                           (("calm", (1, 1)), "holds"), (("calm", (1, 2)), "fails"), (("like", OTHER), "holds"),
                           (("like", TEXT), "unlike"), (("heard", "x", 3, 5), "fails"),
                           (("heard", "old", 0, 1), "fails")):
            self.assertEqual(certify(TWO, wish)[0][0], word)
            self.certifies_wish(TWO, wish)

    def test_like_that_does_not_hold(self):
        claim, tick = certify(TWO, ("like", TEXT))
        self.assertEqual(claim, ("unlike", OTHER, TEXT))
        self.assertIn(tick, (6, 7, 8, 9))
        for text in ("track 11", "track 13", "track 1", "track 1000000000000", str(Track(13, (A, B)))):
            self.assertIsNone(certify(TWO, ("like", text)))
            self.assertIsNone(certify(track=TWO, wish=("like", text)))
        self.assertEqual(certify(Track(13), ("like", "track 13")), (("holds", "track 13", ("like", "track 13")), ()))

    def test_short_tracks(self):
        dice = Dice(921)
        for track in any_tracks(120, 922, names=NAMES):
            for _ in range(3):
                self.certifies_wish(track, any_wish(dice, track, [any_change(dice, track), Track(track.length)]))

    def test_great_tracks(self):
        dice = Dice(923)
        for _ in range(5):
            track = great_track(dice, 6)
            for wish in (("kept", 0, MOST), ("flat", 0, MOST), ("flat", MOST - 1, MOST), ("heard", "a", 0, 10 ** 6),
                         ("heard", "x", 5, MOST), ("calm", (1, 1)), ("calm", (0, 1)), ("like", str(track)),
                         ("like", str(Track(MOST))), ("kept", MOST - 1, MOST)):
                claim, _ = self.is_paper(certify(track, wish))
                self.assertEqual(claim[0] == "holds", holds(track, wish))
                self.assertEqual(claim[1], str(track))

    def test_refused(self):
        for value in NO_TRACKS:
            self.refused_given(NotATrack, value, certify, value, ("calm", (1, 1)))
            self.refused_given(NotATrack, value, certify, wish=None, track=value)
        for value in NO_WISHES:
            for track in (Track(12), TWO):
                self.refused_given(InvalidWish, value, certify, track, value)
                self.refused_given(InvalidWish, value, certify, wish=value, track=track)
        for wish in with_stretches(BEYOND):
            self.refused_given(InvalidWish, wish, certify, ONE, wish)


class Reach(PaperCase):

    def certifies_reach(self, track, bounds):
        for told in (certify_reach(track, bounds), certify_reach(bounds=bounds, track=track)):
            self.assertEqual((type(told), len(told)), (tuple, 2))
            least, low, most, high = plain_reach(plain_forms(track), bounds)
            for paper, side, number in zip(told, ("least", "greatest"), (least, most)):
                self.is_paper(paper)
                self.assertEqual(paper[0], ("comes", str(track), bounds, side, number))

    def test_the_example(self):
        told = certify_reach(ONE, BOUNDS)
        self.assertEqual([paper[0][3:] for paper in told], [("least", (-10, 1)), ("greatest", (20, 1))])
        self.certifies_reach(ONE, BOUNDS)

    def test_short_tracks(self):
        dice = Dice(931)
        for track in any_tracks(80, 932):
            self.certifies_reach(track, any_bounds(dice, track, dice.one_of((2, 30, 10 ** 20))))

    def test_great_tracks(self):
        dice = Dice(933)
        for _ in range(4):
            track = great_track(dice, 8)
            for paper in certify_reach(track, any_bounds(dice, track)):
                self.is_paper(paper)

    def test_refused(self):
        for value in NO_TRACKS:
            self.refused_given(NotATrack, value, certify_reach, value, BOUNDS)
            self.refused_given(NotATrack, value, certify_reach, bounds=None, track=value)
        for value in NO_TUPLES + (list(BOUNDS), (), BOUNDS[:1]):
            self.refused_index(InvalidBounds, None, certify_reach, ONE, value)
            self.refused_index(InvalidBounds, None, certify_reach, bounds=value, track=ONE)
        for index, bounds in ((0, BOUNDS[::-1]), (1, (BOUNDS[0], None)), (1, (BOUNDS[0], ("old", 5, 0))),
                              (2, BOUNDS * 2)):
            self.refused_index(InvalidBounds, index, certify_reach, ONE, bounds)
            self.refused_index(InvalidBounds, index, certify_reach, bounds=bounds, track=ONE)


class Files(PaperCase):

    def test_the_interface_stands_in_the_file(self):
        for call in (certify_form, certify_pair, certify, certify_reach):
            self.assertEqual(call.__module__, certificates.__name__)

    def test_equal_arguments_give_equal_papers(self):
        for track in any_tracks(10, 941):
            twin = Track.read(str(track))
            self.assertEqual(certify_pair(track, Track(track.length)), certify_pair(twin, Track(track.length)))
            for wish in (("kept", 0, track.length), ("flat", 0, track.length), ("calm", (0, 1))):
                self.assertEqual(certify(track, wish), certify(twin, wish))


if __name__ == "__main__":
    unittest.main()

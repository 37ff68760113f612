"""accepts: right claims with their certificates, the same with one thing otherwise, and values of any kind."""

import unittest

from tests.plain import NAMES, Dice, any_change, any_tracks, plain_forms
from tests.plain_wishes import any_wish, ends_in, pair, plain_failing, plain_holds, plain_reach
from tests.samples import A, B, C, NO_TUPLES, Case, Everything
from tests.test_reach import any_bounds
from tests.wish_samples import LIMITS, NEVER_WISHES, NO_LIMITS, NO_TEXTS, NO_WISHES
from touchpasses import checker
from touchpasses.checker import accepts
from touchpasses.desks import Desk
from touchpasses.forms import form
from touchpasses.tracks import Track

MOST = 10 ** 12
ONE, TWO = Track(12, (A,)), Track(12, (A, B))
TEXT, OTHER = str(ONE), str(TWO)
FULL = (1, 1)
BOUNDS = (("a", -10, 20), ("old", 0, 5))
ANYTHING = NO_TUPLES + ((), (0,), (None,), ((),), -1, 12, 10 ** 39, "6", (6,), [6], ("old", 5), ONE, Desk(ONE), A,
                        (((((((((6,),),),),),),),),), Everything)
NO_TICKS = (-1, 12, MOST) + tuple(value for value in ANYTHING if type(value) is not int)
NO_CERTIFICATES = tuple(value for value in ANYTHING if not isinstance(value, tuple) or len(value))


def others(value):
    """Values with one thing otherwise, at any depth."""
    if isinstance(value, tuple):
        yield list(value)
        yield value + (0,)
        yield value + value[-1:] if value else (value,)
        yield (value,)
        if value:
            yield value[:-1]
            yield value[1:]
        if value[::-1] != value:
            yield value[::-1]
        for at, part in enumerate(value):
            for other in others(part):
                yield value[:at] + (other,) + value[at + 1:]
    elif isinstance(value, str):
        yield from (value + " ", value[:-1], value.upper() if value.upper() != value else value + "x", None, b"old",
                    (value,), [value], Everything())
    else:
        yield from (value + 1, value - 1, -value if value else 99, str(value), (value,), [value], None, Everything())
        if value in (0, 1):
            yield bool(value)


class CheckCase(Case):

    def accepted(self, claim, certificate):
        for told in (accepts(claim, certificate), accepts(certificate=certificate, claim=claim)):
            self.assertIs(told, True, f"{claim!r} with {certificate!r}")

    def denied(self, claim, certificate):
        for told in (accepts(claim, certificate), accepts(certificate=certificate, claim=claim)):
            self.assertIs(told, False, f"{claim!r} with {certificate!r}")

    def accepted_with(self, claim, right, ticks):
        """Just these ticks are certificates."""
        for tick in ticks:
            (self.accepted if tick in right else self.denied)(claim, tick)

    def needs_nothing(self, claim):
        """The claim is accepted with the empty tuple alone, and as a tuple of this length alone."""
        self.accepted(claim, ())
        for certificate in NO_CERTIFICATES:
            self.denied(claim, certificate)
        self.shaped(claim, ())

    def needs_tick(self, claim, tick):
        """The claim is accepted with this tick, and with nothing that is no integer."""
        self.accepted(claim, tick)
        for certificate in NO_TICKS + ((tick,), [tick], str(tick), {tick: tick}):
            self.denied(claim, certificate)
        self.shaped(claim, tick)

    def shaped(self, claim, certificate):
        for wrong in (list(claim), claim + (None,), claim + ((),), claim[:-1], claim[1:], (claim,), claim[::-1],
                      (claim[0] + " ",) + claim[1:], (claim[0].upper(),) + claim[1:], (None,) + claim[1:],
                      ([claim[0]],) + claim[1:], (Everything(),) + claim[1:], dict.fromkeys(map(str, claim)),
                      str(claim)):
            self.denied(wrong, certificate)


class Forms(CheckCase):

    def test_the_examples(self):
        self.accepted(("form", TEXT, 5, (("a", 4, (3, 4)), ("old", 5, (1, 4)))), ())
        self.needs_nothing(("form", TEXT, 5, form(ONE, 5)))

    def test_one_thing_otherwise(self):
        for track, tick in ((ONE, 5), (TWO, 7), (ONE, 0), (Track(12, (C,)), 3), (Track(2), 1), (ONE, 4)):
            terms = form(track, tick)
            self.accepted(("form", str(track), tick, terms), ())
            for wrong in others(terms):
                self.denied(("form", str(track), tick, wrong), ())

    def test_other_ticks_and_texts(self):
        for tick in range(12):
            for other in range(-1, 14):
                claim = ("form", TEXT, other, form(ONE, tick))
                (self.accepted if tick == other else self.denied)(claim, ())
            same = form(ONE, tick) == form(TWO, tick)
            (self.accepted if same else self.denied)(("form", OTHER, tick, form(ONE, tick)), ())

    def test_no_ticks(self):
        for tick in (True, False, None, "0", (0,), [0], -1, 12, MOST, 10 ** 39, Everything(), b"0", {}):
            self.denied(("form", TEXT, tick, form(ONE, 0)), ())
            self.denied(("form", TEXT, tick, form(ONE, 1)), ())

    def test_no_texts(self):
        for text in NO_TEXTS:
            self.denied(("form", text, 0, form(Track(12), 0)), ())
            self.denied(("form", text, 5, form(ONE, 5)), ())

    def test_no_forms(self):
        for value in NO_TUPLES + ((), "old", "old 0 1", (("old", 0, FULL, 0),), (("old", 0),), (("old", 0, 1),),
                                  (("old", 0, (2, 2)),), (("old", 0, (True, 1)),), (("old", False, FULL),),
                                  [("old", 0, FULL)],
                                  (["old", 0, FULL],), (("old", 0, [1, 1]),), ("old", 0, FULL), (("old", 0, "1"),)):
            self.denied(("form", "track 12", 0, value), ())
            self.denied(("form", "track 12", 1, value), ())
        self.accepted(("form", "track 12", 0, (("old", 0, FULL),)), ())

    def test_against_the_plain_playing(self):
        for track in any_tracks(20, 801, names=NAMES):
            for tick, terms in enumerate(plain_forms(track)):
                self.accepted(("form", str(track), tick, terms), ())

    def test_a_great_track(self):
        track = Track(MOST, (("a", "touch", 3, MOST, ((4, MOST - 3),), 100, "stop"),))
        self.accepted(("form", str(track), MOST - 1, (("a", MOST - 4, (98, 101)), ("old", MOST - 1, (3, 101)))), ())
        self.denied(("form", str(track), MOST - 1, (("a", MOST - 4, (97, 101)), ("old", MOST - 1, (4, 101)))), ())
        self.denied(("form", str(track), MOST, (("old", MOST, FULL),)), ())


class Holding(CheckCase):

    def test_each_form(self):
        for wish in (("heard", "a", 3, 5), ("kept", 0, 3), ("flat", 6, 10), ("calm", FULL), ("like", OTHER)):
            self.needs_nothing(("holds", OTHER, wish))
        for wish in (("heard", "a", 3, 6), ("heard", "x", 0, 1), ("heard", "old", 0, 1), ("kept", 0, 4), ("flat", 5, 7),
                     ("calm", (99, 100)), ("like", TEXT), ("like", "track 11"), ("like", "track 13")):
            self.denied(("holds", OTHER, wish), ())

    def test_no_wishes(self):
        for wish in NO_WISHES:
            self.denied(("holds", OTHER, wish), ())
            self.denied(("holds", "track 12", wish), ())

    def test_no_texts(self):
        for text in NO_TEXTS:
            self.denied(("holds", text, ("calm", FULL)), ())
            self.denied(("holds", "track 12", ("like", text)), ())

    def test_limits_that_are_none(self):
        for limit in NO_LIMITS:
            self.denied(("holds", "track 12", ("calm", limit)), ())
        for limit in LIMITS:
            self.accepted(("holds", "track 12", ("calm", limit)), ())

    def test_the_length_counts(self):
        self.accepted(("holds", "track 12", ("kept", 0, 12)), ())
        self.denied(("holds", "track 11", ("kept", 0, 12)), ())
        self.denied(("holds", "track 12", ("kept", True, 12)), ())


class Pairs(CheckCase):

    def test_same(self):
        nothing = ONE.put(("n", "latch", 0, 9, (), 4, "on"))
        for other in (ONE, nothing):
            self.needs_nothing(("same", TEXT, str(other)))
            self.needs_nothing(("same", str(other), TEXT))
        for other in (TWO, Track(12), Track(13, (A,)), Track(11, (A,)), Track(12, (("z",) + A[1:],))):
            self.denied(("same", TEXT, str(other)), ())
            self.denied(("same", str(other), TEXT), ())
        self.accepted(("same", "track 1000000000000", "track 1000000000000"), ())
        self.denied(("same", "track 1000000000000", "track 999999999999"), ())

    def test_unlike(self):
        self.needs_tick(("unlike", TEXT, OTHER), 6)
        for texts in ((TEXT, OTHER), (OTHER, TEXT)):
            self.accepted_with(("unlike", *texts), (6, 7, 8, 9), range(-2, 15))
        for texts in ((TEXT, TEXT), (TEXT, str(ONE.put(("n", "latch", 0, 9, (), 4, "on"))))):
            self.accepted_with(("unlike", *texts), (), range(-1, 13))

    def test_unlike_of_other_lengths(self):
        for other in (Track(13, (A,)), Track(11, (A,)), Track(13), Track(13, (A, B))):
            self.accepted_with(("unlike", TEXT, str(other)), (), range(-1, 14))
            self.accepted_with(("unlike", str(other), TEXT), (), range(-1, 14))

    def test_no_texts(self):
        for text in NO_TEXTS:
            self.denied(("same", text, "track 12"), ())
            self.denied(("same", "track 12", text), ())
            self.denied(("same", text, text), ())
            for tick in (0, 5, 6):
                self.denied(("unlike", text, OTHER), tick)
                self.denied(("unlike", OTHER, text), tick)

    def test_short_tracks(self):
        dice = Dice(811)
        for track in any_tracks(40, 812):
            other = any_change(dice, track)
            one, two = plain_forms(track), plain_forms(other)
            (self.accepted if one == two else self.denied)(("same", str(track), str(other)), ())
            wrong = [tick for tick in range(track.length) if one[tick] != two[tick]]
            self.accepted_with(("unlike", str(track), str(other)), wrong, range(-1, track.length + 2))


class Failing(CheckCase):

    def test_heard(self):
        self.needs_tick(("fails", OTHER, ("heard", "a", 2, 7)), 5)
        self.accepted_with(("fails", OTHER, ("heard", "a", 2, 7)), (2, 5, 6), range(-1, 14))
        self.accepted_with(("fails", OTHER, ("heard", "a", 3, 5)), (), range(-1, 14))

    def test_a_name_that_is_no_pass(self):
        """Any tick of the stretch, though the old curve itself is heard there."""
        for name in ("x", "old", "ol", "olda"):
            self.accepted_with(("fails", OTHER, ("heard", name, 2, 5)), (2, 3, 4), range(-1, 14))

    def test_kept(self):
        self.needs_tick(("fails", OTHER, ("kept", 1, 12)), 9)
        self.accepted_with(("fails", OTHER, ("kept", 1, 12)), range(3, 10), range(-1, 14))
        self.accepted_with(("fails", OTHER, ("kept", 8, 12)), (8, 9), range(-1, 14))
        self.accepted_with(("fails", OTHER, ("kept", 10, 12)), (), range(-1, 14))
        held = str(Track(9, (("w", "write", 2, 7, (), 0, "stop"),)))
        self.accepted_with(("fails", held, ("kept", 0, 9)), range(3, 7), range(9))

    def test_flat(self):
        self.accepted_with(("fails", OTHER, ("flat", 5, 7)), (6,), range(-1, 14))
        self.accepted_with(("fails", OTHER, ("flat", 7, 12)), (10, 11), range(-1, 14))
        self.accepted_with(("fails", OTHER, ("flat", 6, 10)), (), range(-1, 14))
        self.needs_tick(("fails", OTHER, ("flat", 5, 7)), 6)

    def test_calm(self):
        self.accepted_with(("fails", TEXT, ("calm", (0, 1))), (3, 5, 6, 7, 8), range(-1, 14))
        self.accepted_with(("fails", TEXT, ("calm", (1, 4))), (3,), range(-1, 14))
        self.accepted_with(("fails", TEXT, ("calm", (24, 97))), (3, 5, 6, 7, 8), range(-1, 14))
        self.accepted_with(("fails", TEXT, ("calm", FULL)), (), range(-1, 14))
        self.needs_tick(("fails", TEXT, ("calm", (1, 2))), 3)
        first = str(Track(3, (("a", "touch", 0, 1, ((0, 1),), 0, "stop"),)))
        self.accepted_with(("fails", first, ("calm", (0, 1))), (1,), range(-1, 4))

    def test_never_for_like(self):
        for text in (TEXT, OTHER, "track 12", "track 11", "track 13"):
            self.accepted_with(("fails", OTHER, ("like", text)), (), range(-1, 14))
            self.denied(("fails", OTHER, ("like", text)), ())

    def test_no_wishes_and_no_texts(self):
        for wish in NO_WISHES:
            for tick in (0, 5, 11):
                self.denied(("fails", OTHER, wish), tick)
        for text in NO_TEXTS:
            for tick in (0, 5):
                self.denied(("fails", text, ("heard", "x", 0, 6)), tick)
                self.denied(("fails", text, ("kept", 0, 6)), tick)

    def test_against_the_forms(self):
        dice = Dice(821)
        for track in any_tracks(80, 822):
            for _ in range(3):
                wish = any_wish(dice, track, [any_change(dice, track)])
                (self.accepted if plain_holds(track, wish) else self.denied)(("holds", str(track), wish), ())
                wrong = () if wish[0] == "like" else plain_failing(track, wish)
                self.accepted_with(("fails", str(track), wish), wrong, range(-1, track.length + 2))

    def test_great_tracks(self):
        half = 5 * 10 ** 11
        track = Track(MOST, (("a", "touch", 3, MOST, ((4, half),), 100, "stop"),))
        for wish, right, wrong in (
                (("heard", "a", 0, MOST), (0, 3, half, MOST - 1), (4, half - 1, MOST)),
                (("kept", 0, MOST), (4, half, half + 99), (0, 3, half + 100, MOST - 1, MOST)),
                (("flat", 7, MOST), (8, half, MOST - 1), (7, 6, 0, MOST)),
                (("flat", 7, 9), (8,), (7, 9, half)),
                (("calm", (1, 102)), (4, half, half + 100), (0, 1, 3, 5, half - 1, half + 101, MOST - 1, MOST)),
                (("calm", (1, 101)), (4,), (half, half + 1, half + 100))):
            for tick in right:
                self.accepted(("fails", str(track), wish), tick)
            for tick in wrong:
                self.denied(("fails", str(track), wish), tick)


class Coming(CheckCase):

    def claim(self, side, number, bounds=BOUNDS, text=TEXT):
        return "comes", text, bounds, side, number

    def test_each_side(self):
        self.needs_tick(self.claim("least", (-10, 1)), 3)
        self.needs_tick(self.claim("greatest", (20, 1)), 4)
        self.accepted_with(self.claim("least", (-10, 1)), (3, 4), range(-1, 14))
        self.accepted_with(self.claim("greatest", (20, 1)), (3, 4), range(-1, 14))
        self.accepted_with(self.claim("least", (20, 1)), (), range(-1, 14))
        self.accepted_with(self.claim("greatest", (-10, 1)), (), range(-1, 14))

    def test_numbers_that_are_had_and_not_the_outermost_ones(self):
        for number in ((0, 1), (5, 1), (-15, 2), (65, 4), (-9, 1), (19, 1), (-11, 1), (21, 1), (-10, 2), (20, 2)):
            for side in ("least", "greatest"):
                self.accepted_with(self.claim(side, number), (), range(12))

    def test_other_words_for_the_side(self):
        for side in NO_TUPLES + ("lowest", "most", "Least", "LEAST", "least ", "greates", "great", "low", ("least",),
                                 ["least"], "", b"least"):
            self.denied(self.claim(side, (-10, 1)), 3)
            self.denied(self.claim(side, (20, 1)), 3)

    def test_numbers_otherwise(self):
        for wrong in others((-10, 1)):
            self.denied(self.claim("least", wrong), 3)
        for wrong in list(others((20, 1))) + [(40, 2), (-20, -1), (20, True), (20, 0), 20, "20", (20,), "20/1"]:
            self.denied(self.claim("greatest", wrong), 3)
        flat = (("a", 0, 1), ("old", 0, 1))
        self.accepted(self.claim("least", (0, 1), flat), 0)
        self.accepted(self.claim("greatest", (1, 1), flat), 0)
        for wrong in ((False, 1), (0, True), (0, 2), (0, -1), [0, 1]):
            self.denied(self.claim("least", wrong, flat), 0)
        for wrong in ((True, 1), (1, True), (2, 2), (-1, -1), [1, 1]):
            self.denied(self.claim("greatest", wrong, flat), 0)

    def test_fractions(self):
        three = Track(3, (("g", "touch", 0, 3, ((0, 1),), 3, "stop"),))
        bounds = (("g", 0, 4), ("old", 9, 13))
        self.accepted_with(self.claim("greatest", (17, 2), bounds, str(three)), (2,), range(-1, 4))
        for wrong in ((34, 4), (8, 1), (9, 1), (-17, -2), (17, 3)):
            self.accepted_with(self.claim("greatest", wrong, bounds, str(three)), (), range(-1, 4))

    def test_bounds_otherwise(self):
        for wrong in others(BOUNDS):
            if accepts(self.claim("least", (-10, 1), wrong), 3):
                self.assertEqual((type(wrong), wrong[0]), (tuple, ("a", -10, wrong[0][2])))
                self.assertEqual([(type(one), len(one)) for one in wrong], [(tuple, 3)] * 2)
                self.assertTrue(wrong[1][0] == "old" and -10 < wrong[1][1] <= wrong[1][2])
        for wrong in NO_TUPLES + ((), BOUNDS[:1], BOUNDS[1:], BOUNDS[::-1], BOUNDS + BOUNDS[1:],
                                  BOUNDS + (("z", 0, 1), ),
                                  list(BOUNDS), (list(BOUNDS[0]), BOUNDS[1]), (("b", -10, 20), BOUNDS[1]),
                                  (("a", 20, -10), BOUNDS[1]), (BOUNDS[0], ("old", False, 5)),
                                  (BOUNDS[0], ("old", 0, True)),
                                  (("a", -10, 20, 0), BOUNDS[1]), (("a", -10), BOUNDS[1]),
                                  (("a", "-10", 20), BOUNDS[1])):
            self.denied(self.claim("least", (-10, 1), wrong), 3)
            self.denied(self.claim("greatest", (20, 1), wrong), 3)

    def test_no_texts(self):
        for text in NO_TEXTS:
            self.denied(self.claim("least", (0, 1), (("old", 0, 1),), text), 0)
            self.denied(self.claim("least", (-10, 1), BOUNDS, text), 3)

    def test_against_the_forms(self):
        dice = Dice(831)
        for track in any_tracks(60, 832):
            bounds = any_bounds(dice, track, 6)
            ends = [ends_in(terms, bounds) for terms in plain_forms(track)]
            least, _, most, _ = plain_reach(plain_forms(track), bounds)
            for side, number, place in (("least", least, 0), ("greatest", most, 1)):
                right = [tick for tick, numbers in enumerate(ends) if pair(1 * numbers[place]) == number]
                self.accepted_with(self.claim(side, number, bounds, str(track)), right, range(-1, track.length + 2))
                self.denied(self.claim(side, (number[0] + 1, number[1]), bounds, str(track)), right[0])
                self.denied(self.claim(side, (number[0] * 2, number[1] * 2), bounds, str(track)), right[0])

    def test_a_great_track(self):
        half = 5 * 10 ** 11
        track = Track(MOST, (("a", "touch", 3, MOST, ((4, half),), 100, "stop"),))
        bounds = (("a", -10 ** 20, 0), ("old", -1, 10 ** 30))
        for tick in (4, half - 1, 7 * 10 ** 10):
            self.accepted(self.claim("least", (-10 ** 20, 1), bounds, str(track)), tick)
            self.denied(self.claim("greatest", (10 ** 30, 1), bounds, str(track)), tick)
        for tick in (0, 3, half + 100, MOST - 1):
            self.accepted(self.claim("greatest", (10 ** 30, 1), bounds, str(track)), tick)
            self.denied(self.claim("least", (-10 ** 20, 1), bounds, str(track)), tick)


class Truths(CheckCase):
    """True is not the tick 1, and False is not the tick 0."""

    def test_ticks(self):
        track = Track(3, (("a", "touch", 0, 3, ((0, 3),), 0, "stop"),))
        for claim in (("unlike", str(track), "track 3"), ("fails", str(track), ("kept", 0, 3)),
                      ("fails", str(track), ("heard", "x", 0, 3)),
                      ("comes", str(track), (("a", 1, 2), ("old", 0, 0)), "least", (1, 1)),
                      ("comes", str(track), (("a", 1, 2), ("old", 0, 0)), "greatest", (2, 1))):
            self.accepted_with(claim, (0, 1, 2), range(-1, 5))
            self.denied(claim, True)
            self.denied(claim, False)
        flat = Track(3, (("a", "latch", 0, 3, ((1, 2),), 0, "stop"),))
        self.accepted_with(("fails", str(flat), ("flat", 0, 3)), (1, 2), range(-1, 5))
        self.denied(("fails", str(flat), ("flat", 0, 3)), True)
        self.accepted_with(("fails", str(flat), ("calm", (0, 1))), (1,), range(-1, 5))
        self.denied(("fails", str(flat), ("calm", (0, 1))), True)

    def test_within_wishes_and_bounds(self):
        for wish in (("kept", False, 3), ("kept", 0, True), ("flat", False, 1), ("heard", "x", False, 2)):
            for tick in (0, 1, 2):
                self.denied(("fails", "track 3", wish), tick)
            self.denied(("holds", "track 3", wish), ())
        self.denied(("comes", "track 3", (("old", True, 1),), "least", (1, 1)), 0)
        self.denied(("comes", "track 3", (("old", 1, True),), "greatest", (1, 1)), 0)


class AnyKind(CheckCase):

    def test_values_of_any_kind(self):
        for claim in ANYTHING + NO_TEXTS + NEVER_WISHES:
            for certificate in ((), 0, 6, None, (6,), [], Everything()):
                self.denied(claim, certificate)

    def test_words_with_values_of_any_kind(self):
        sizes = {"form": 4, "holds": 3, "same": 3, "unlike": 3, "fails": 3, "comes": 5}
        for word, size in sizes.items():
            for value in NO_TICKS + NO_TEXTS:
                for many in range(1, 7):
                    self.denied((word,) + (value,) * (many - 1), ())
                    self.denied((word,) + (value,) * (many - 1), 0)
                self.denied((word, TEXT) + (value,) * (size - 2), 0)
                self.denied((word, TEXT) + (value,) * (size - 2), value)

    def test_no_words(self):
        for word in ANYTHING + ("", "forms", "hold", "alike", "like", "Same", "come", "reach"):
            self.denied((word, TEXT, OTHER), 6)
            self.denied((word, TEXT, TEXT), ())

    def test_nothing_is_changed(self):
        claim = ["same", TEXT, TEXT]
        self.denied(claim, [])
        self.assertEqual(claim, ["same", TEXT, TEXT])

    def test_the_file(self):
        self.assertEqual(accepts.__module__, checker.__name__)


if __name__ == "__main__":
    unittest.main()

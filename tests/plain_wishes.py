"""Jumps, bounds, wishes and changes, told slowly from the forms of all ticks of short tracks."""

from fractions import Fraction
from itertools import combinations

from tests.plain import plain_form, plain_forms
from touchpasses.errors import InvalidPasses
from touchpasses.tracks import Track

AT = {"mode": 1, "from": 2, "to": 3, "touches": 4, "glide": 5, "tail": 6}


def pair(number):
    """A fraction as the program tells it."""
    return number.numerator, number.denominator


def step_between(ahead, behind):
    """The greatest difference of the weights of a source in two forms."""
    one, two = ({source: Fraction(*weight) for source, _, weight in terms} for terms in (ahead, behind))
    return max(abs(one.get(source, 0) - two.get(source, 0)) for source in {*one, *two})


def plain_steps(forms):
    """The greatest difference at each tick but the first one."""
    return {tick: step_between(forms[tick - 1], forms[tick]) for tick in range(1, len(forms))}


def plain_sudden(forms, limit):
    return tuple(tick for tick, step in plain_steps(forms).items() if step > Fraction(*limit))


def plain_steepest(forms):
    steps = plain_steps(forms)
    most = max(steps.values(), default=0)
    return (pair(Fraction(most)), min(tick for tick in steps if steps[tick] == most)) if most else None


def ends_in(terms, bounds):
    """The least and the greatest number of a form within bounds."""
    rows = {source: numbers for source, *numbers in bounds}
    return tuple(sum(rows[source][k] * Fraction(*weight) for source, _, weight in terms) for k in (0, 1))


def plain_reach(forms, bounds):
    ends = [ends_in(terms, bounds) for terms in forms]
    lows, highs = zip(*ends)
    least, most = min(lows), max(highs)
    return pair(Fraction(least)), lows.index(least), pair(Fraction(most)), highs.index(most)


def heard_ticks(forms, source):
    return {tick for terms in forms for name, tick, _ in terms if name == source}


def plain_failing(track, wish):
    """All ticks that show that a wish, which is no "like", does not hold."""
    forms = plain_forms(track)
    word, *rest = wish
    if word == "calm":
        return list(plain_sudden(forms, rest[0]))
    ticks = range(*rest[-2:])
    if word == "kept":
        return [tick for tick in ticks if forms[tick] != (("old", tick, (1, 1)),)]
    if word == "flat":
        return [tick for tick in ticks if forms[tick] != forms[ticks[0]]]
    heard = heard_ticks(forms, rest[0]) if rest[0] in track.names else set()
    return [tick for tick in ticks if tick not in heard]


def plain_holds(track, wish):
    if wish[0] == "like":
        other = Track.read(wish[1])
        return track.length == other.length and plain_forms(track) == plain_forms(other)
    return not plain_failing(track, wish)


def plain_behind(track, changes):
    """The track behind changes, None if there is none."""
    if len({change[:2] for change in changes}) < len(changes):
        return None
    rows = {one[0]: list(one) for one in track.passes}
    for name, part, value in changes:
        rows[name][AT[part]] = value
    try:
        return Track(track.length, tuple(map(tuple, rows.values())))
    except InvalidPasses:
        return None


def plain_mends(track, wishes, changes):
    """All least sets, by trying every one."""
    right = []
    for size in range(len(changes) + 1):
        for part in combinations(range(len(changes)), size):
            behind = plain_behind(track, [changes[k] for k in part])
            if behind is not None and all(plain_holds(behind, wish) for wish in wishes):
                right.append(part)
    return tuple(part for part in right if not any(set(less) < set(part) for less in right))


def any_stretch(dice, length):
    first = dice.upto(length - 1)
    return first, dice.one_of((first + 1, first + 1, first + 1 + dice.upto(length - first - 1), length))


def any_wish(dice, track, others=()):
    """A wish for a short track, which holds about as often as not."""
    first, end = any_stretch(dice, track.length)
    word = dice.one_of(("heard", "heard", "kept", "flat", "flat", "calm", "like"))
    if word == "heard":
        return word, dice.one_of((*track.names, *track.names, "new", "old")), first, end
    if word in ("kept", "flat"):
        return word, first, end
    if word == "calm":
        return word, dice.one_of(((0, 1), (1, 4), (1, 3), (1, 2), (2, 3), (3, 4), (99, 100), (1, 1)))
    return word, str(dice.one_of((*others, track)))


def plain_form_of(track, tick):
    return plain_form(track.length, track.passes, tick)

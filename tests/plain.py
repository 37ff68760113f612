"""The document played word by word, slowly, to compare the program with; and tracks drawn by fixed dice."""

from fractions import Fraction

from touchpasses.tracks import Track

LETTERS = "abcdefgh"
# On either side of `old`, and close to it.
NAMES = ("a", "z", "ol", "olda", "old0", "oldd", "olc", "ole", "p", "n9", "x1", "o")
MODES = ("write", "latch", "touch", "trim")


def is_touched(one_pass, tick):
    return any(a <= tick < b for a, b in one_pass[4])


def last_touch(one_pass, tick):
    """The greatest touched tick from FROM up to this tick, looked for one by one."""
    for u in range(tick, max([tick - 300, one_pass[2] - 1]), -1):
        if is_touched(one_pass, u):
            return u
    ahead = [b - 1 for _, b in one_pass[4] if b - 1 <= tick]
    return max(ahead, default=None)


def ends(one_pass, length):
    return length if one_pass[6] == "on" else one_pass[3]


def blended(one, share, other, rest):
    """The sum of two mixtures of (source, tick), each times a number."""
    mixed = {}
    for mixture, many in ((one, share), (other, rest)):
        for key, weight in mixture.items():
            mixed[key] = mixed.get(key, 0) + weight * many
    return {key: weight for key, weight in mixed.items() if weight}


def behind(one_pass, length, curve):
    """The curve behind a pass, as a function from a tick to a mixture: point [8] of the document."""
    name, mode, first, _, _, glide, _ = one_pass

    def told(t):
        if t < first or t >= ends(one_pass, length):
            return curve(t)
        u = last_touch(one_pass, t)
        if mode == "write":
            return curve(first) if u is None else {(name, u): Fraction(1)}
        if u is None:
            return curve(t)
        hand = {(name, u): Fraction(1)}
        if mode == "latch":
            return hand
        k = t - u
        if mode == "touch":
            if k == 0:
                return hand
            far = Fraction(k, glide + 1)
            return blended(hand, 1 - far, curve(t), far) if k <= glide else curve(t)
        if k == 0:
            return blended(curve(t), 1, hand, 1)
        return blended(curve(t), 1, hand, 1 - Fraction(k, glide + 1)) if k <= glide else curve(t)

    return told


def plain_form(length, passes, tick):
    """The form of a tick, by playing the passes one behind the other."""
    def curve(t):
        return {("old", t): Fraction(1)}
    for one_pass in passes:
        curve = behind(one_pass, length, curve)
    mixture = curve(tick)
    return tuple(sorted((source, t, (w.numerator, w.denominator)) for (source, t), w in mixture.items()))


def plain_forms(track):
    """The forms of all ticks of a short track."""
    return [plain_form(track.length, track.passes, tick) for tick in range(track.length)]


def plain_numbers(track, number):
    """What stands at all ticks of a short track, by numbers alone; number(source, tick) gives those put in."""
    length = track.length
    curve = [Fraction(number("old", t)) for t in range(length)]
    for name, mode, first, last, touches, glide, tail in track.passes:
        new = list(curve)
        hand = None
        for t in range(first, length if tail == "on" else last):
            if any(t in range(a, b) for a, b in touches):
                hand = t
            if hand is None:
                new[t] = curve[first] if mode == "write" else curve[t]
            elif mode in ("write", "latch"):
                new[t] = Fraction(number(name, hand))
            elif t - hand <= glide:
                far = Fraction(t - hand, glide + 1)
                kept = curve[t] if mode == "trim" else curve[t] * far
                new[t] = number(name, hand) * (1 - far) + kept
        curve = new
    return curve


def stretches_of(ticks):
    """The longest stretches of these ticks, ascending."""
    found = []
    for tick in sorted(set(ticks)):
        if found and found[-1][1] == tick:
            found[-1] = (found[-1][0], tick + 1)
        else:
            found.append((tick, tick + 1))
    return tuple(found)


def each_pass(length, shapes):
    """Each pass that a track of this length can have, with each of these pairs of a glide and a tail."""
    for first in range(length):
        for last in range(first + 1, length + 1):
            for bits in range(2 ** (last - first)):
                touches = stretches_of([first + k for k in range(last - first) if bits >> k & 1])
                for mode in MODES:
                    for glide, tail in shapes:
                        yield "a", mode, first, last, touches, glide, tail


class Dice:
    """Numbers that look like thrown ones and are the same in each run."""

    def __init__(self, seed):
        self.state = seed * 2654435761 + 12345

    def upto(self, most):
        """One of 0, 1, .. most."""
        self.state = (self.state * 6364136223846793005 + 1442695040888963407) % 2 ** 64
        return (self.state >> 33) % (most + 1)

    def one_of(self, row):
        return row[self.upto(len(row) - 1)]


class Thrown:
    """Numbers of all sources at all ticks; `known` holds those that were asked for."""

    def __init__(self, dice):
        self.dice, self.known = dice, {}

    def __call__(self, source, tick):
        return self.known.setdefault((source, tick), self.dice.upto(2000) - 1000)


def any_pass(dice, name, length, modes=MODES):
    first = dice.one_of((0, dice.upto(length - 1), dice.upto(length - 1)))
    last = dice.one_of((length, first + 1, first + 1 + dice.upto(length - first - 1)))
    often = dice.one_of((0, 0, 1, 2, 3, 5))
    ticks = [t for t in range(first, last) if dice.upto(5) < often]
    touches = stretches_of(ticks)[:6]
    return (name, dice.one_of(modes), first, last, touches, dice.one_of((0, 1, 2, 3, 5, 100)),
            dice.one_of(("stop", "stop", "on")))


def any_track(dice, length=None, many=None, modes=MODES, names=LETTERS):
    """A short track."""
    length = 1 + dice.upto(11) if length is None else length
    many = dice.upto(4) if many is None else many
    left = list(names)
    passes = []
    for _ in range(many):
        name = left.pop(dice.upto(len(left) - 1))
        passes.append(any_pass(dice, name, length, modes))
    return Track(length, tuple(passes))


def any_tracks(how_many, seed, **how):
    dice = Dice(seed)
    return [any_track(dice, **how) for _ in range(how_many)]


def any_change(dice, track):
    """A track that is one pass, one part of a pass or one place away from this one."""
    names = track.names
    if not names:
        return track.put(any_pass(dice, "new", track.length))
    name = dice.one_of(names)
    way = dice.upto(4)
    if way == 0:
        return track.without(name)
    if way == 1:
        return track.moved(name, dice.upto(len(names) - 1))
    if way == 2 and len(names) < 8 and "new" not in names:
        return track.put(any_pass(dice, "new", track.length), dice.upto(len(names)))
    if way == 3:
        return track.changed((name, "glide", dice.one_of((0, 1, 2, 3, 100))))
    return track.changed((name, "tail", dice.one_of(("stop", "on"))))

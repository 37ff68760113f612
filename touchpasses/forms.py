"""What stands at the ticks of a track: forms, weights, numbers and pieces."""

from touchpasses.checks import check_tick, check_track
from touchpasses.curves import form_of
from touchpasses.errors import InvalidKnown, NotKnown
from touchpasses.kinds import is_integer
from touchpasses.runs import longest_runs
from touchpasses.weights import NOTHING, plus, times


def form(track, tick):
    """The form of this tick."""
    check_track(track)
    check_tick(track, tick)
    return form_of(track.passes, track.length, tick)


def pieces(track):
    """The pieces of the track."""
    check_track(track)
    return tuple(longest_runs(track))


def weight_of(track, tick, source):
    """The weight of a source in the form of this tick, (0, 1) for what is none in it."""
    for name, _, weight in form(track, tick):
        if isinstance(source, str) and source == name:
            return weight
    return NOTHING


def is_known(value):
    """Whether this is a triple of a string, an integer from 0 on and an integer."""
    if not isinstance(value, tuple) or len(value) != 3:
        return False
    source, tick, number = value
    return isinstance(source, str) and is_integer(tick) and tick >= 0 and is_integer(number)


def numbers_in(known):
    """The known numbers under their pairs (source, tick)."""
    if not isinstance(known, tuple):
        raise InvalidKnown(None)
    numbers = {}
    for at, triple in enumerate(known):
        if not is_known(triple) or triple[:2] in numbers:
            raise InvalidKnown(at)
        numbers[triple[:2]] = triple[2]
    return numbers


def number_at(track, tick, known):
    """What stands at this tick with the known numbers put in."""
    terms = form(track, tick)
    numbers = numbers_in(known)
    total = NOTHING
    for source, place, weight in terms:
        if (source, place) not in numbers:
            raise NotKnown((source, place))
        total = plus(total, times(weight, (numbers[(source, place)], 1)))
    return total

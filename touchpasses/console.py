"""The console: a desk by lines."""

from touchpasses.desks import Desk
from touchpasses.errors import BadName, BadValue, InvalidText, NoAnswer
from touchpasses.forms import form
from touchpasses.kinds import is_name, is_word
from touchpasses.orders import needless
from touchpasses.passes import MODES, TAILS
from touchpasses.texts import number_in, pass_in
from touchpasses.traces import heard, kept

DONE = "ok"
EMPTY = "none"


def or_none(words):
    """These words in a row, or the one that stands for none."""
    return " ".join(words) if words else EMPTY


def shown_stretches(stretches):
    """The answer that tells stretches."""
    return or_none([f"{first}-{end}" for first, end in stretches])


def shown_weight(weight):
    """A weight as it is told."""
    top, bottom = weight
    return str(top) if bottom == 1 else f"{top}/{bottom}"


def say_put(desk, one_pass):
    """Puts a pass behind all others."""
    desk.put(one_pass)
    return DONE


def say_take(desk, name):
    """Takes a pass out."""
    desk.take(name)
    return DONE


def say_move(desk, name, place):
    """Puts a pass at another place."""
    desk.move(name, place)
    return DONE


def say_undo(desk):
    """Takes back the last change."""
    desk.undo()
    return DONE


def say_promise_heard(desk, name, first, end):
    """Promises that a stretch of a movement is heard."""
    desk.promise(("heard", name, first, end))
    return DONE


def say_promise_kept(desk, first, end):
    """Promises that a stretch is kept."""
    desk.promise(("kept", first, end))
    return DONE


def say_lift(desk, index):
    """Takes a promise away."""
    desk.lift(index)
    return DONE


def say_form(desk, tick):
    """Tells the form of a tick."""
    terms = form(desk.track, tick)
    return " + ".join([f"{source} {place} {shown_weight(weight)}" for source, place, weight in terms])


def say_heard(desk, name):
    """Tells what is heard of a movement."""
    return shown_stretches(heard(desk.track, name))


def say_kept(desk):
    """Tells what is kept."""
    return shown_stretches(kept(desk.track))


def say_needless(desk):
    """Tells the needless passes."""
    return or_none(needless(desk.track))


def say_passes(desk):
    """Tells the passes in their order."""
    return or_none(desk.track.names)


# What stands behind the words of each line but `put`, and what is done for it.
KINDS = {
    "take": ("name",), "move": ("name", "number"), "undo": (), "lift": ("number",),
    "promise heard": ("name", "number", "number"), "promise kept": ("number", "number"),
    "form": ("number",), "heard": ("name",), "kept": (), "needless": (), "passes": (),
}
ACTIONS = {
    "put": say_put, "take": say_take, "move": say_move, "undo": say_undo, "lift": say_lift,
    "promise heard": say_promise_heard, "promise kept": say_promise_kept,
    "form": say_form, "heard": say_heard, "kept": say_kept, "needless": say_needless, "passes": say_passes,
}


def told_pass(words):
    """The list of the pass that these words tell, None if they tell none; no desk need take the pass."""
    one_pass = pass_in(words)
    if one_pass is None:
        return None
    name, mode, _, _, _, _, tail = one_pass
    if not is_name(name) or not is_word(mode, MODES) or not is_word(tail, TAILS):
        return None
    return [one_pass]


def told_values(words, kinds):
    """What these words tell, if they are of these kinds, otherwise None."""
    if len(words) != len(kinds):
        return None
    found = []
    for word, kind in zip(words, kinds):
        if kind == "number":
            found.append(number_in(word))
        else:
            found.append(word if is_name(word) else None)
    return None if None in found else found


def told_line(line):
    """The pair of the words that tell what is done and the list of the values behind them, None for no line."""
    if not isinstance(line, str):
        return None
    words = line.split(" ")
    many = 2 if words[0] == "promise" else 1
    head, rest = " ".join(words[:many]), words[many:]
    if head not in ACTIONS:
        return None
    values = told_pass(rest) if head == "put" else told_values(rest, KINDS[head])
    return None if values is None else (head, values)


class Console:
    """A desk by lines."""

    def __init__(self, track):
        self._desk = Desk(track)

    @property
    def desk(self):
        """The desk that the lines are for."""
        return self._desk

    def __eq__(self, other):
        return self is other

    def say(self, line):
        """Does what a line says, and returns its answer."""
        told = told_line(line)
        if told is None:
            raise InvalidText(line)
        head, values = told
        action = ACTIONS[head]
        try:
            return action(self._desk, *values)
        except (BadValue, BadName, NoAnswer) as error:
            return type(error).__name__

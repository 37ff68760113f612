"""Rows of stretches."""


def longest(stretches):
    """The longest stretches of the ticks that are in any of these ones, ascending."""
    found = []
    for first, end in sorted(stretches):
        if found and first <= found[-1][1]:
            found[-1] = (found[-1][0], max(found[-1][1], end))
        else:
            found.append((first, end))
    return tuple(found)


def first_gap(stretches, begin, end):
    """The least tick of the stretch (begin, end) that is in none of these ascending ones, None if there is none."""
    tick = begin
    for first, until in stretches:
        if first <= tick < until:
            tick = until
    return tick if tick < end else None

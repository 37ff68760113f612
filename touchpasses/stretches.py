"""Rows of stretches."""


def longest(stretches):
    """The longest stretches of the ticks that are in any of these ones, ascending."""
    found = []
    for first, end in sorted(stretches):
        if found and first <= found[-1][1]:
            found[-1] = (found[-1][0], max(found[-1][1], end))
        else:
            found.append((first, end))
    return tuple(found)

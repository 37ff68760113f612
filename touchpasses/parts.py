"""Sets of indexes, as ascending tuples: all of them, and the least ones that are right."""


def all_parts(many):
    """All sets of indexes below a number, those with fewer first, equally long ones ascending."""
    found = [()]
    for k in range(many):
        found = found + [part + (k,) for part in found]
    rows = sorted([(len(part), part) for part in found])
    return [part for _, part in rows]


def contains(part, less):
    """Whether all indexes of the second set are in the first one."""
    return all([k in part for k in less])


def contains_any(part, found):
    """Whether one of the found sets is in this one."""
    return any([contains(part, less) for less in found])


def least_parts_of(many, is_right):
    """The sets of indexes below a number that are right and have no proper part that is, in the order of all_parts."""
    found = []
    # A right proper part has fewer indexes, so it, or a least one in it, is found ahead of the set.
    for part in all_parts(many):
        if not contains_any(part, found) and is_right(part):
            found.append(part)
    return tuple(found)

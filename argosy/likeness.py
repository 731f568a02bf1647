"""Which boats are the same boat, and which boats of two fleets."""

from argosy.errors import BadFleet
from argosy.timbers import many_common, rising


def same(one, other):
    """True where two lists of timbers are the same boat, else False."""
    shared = many_common(one, other)
    # More than half of each: a list without timbers is no boat's like, as nothing is more than half of none.
    return 2 * shared > len(rising(one)) and 2 * shared > len(rising(other))


def is_fleet(boats):
    """True where each list has a timber or more, and no two have one in common."""
    timbers = []
    for boat in boats:
        if len(boat) == 0:
            return False
        timbers.extend(rising(boat))
    return len(rising(timbers)) == len(timbers)


def paired(ahead, behind):
    """The pairs of places of boats that are the same boat, of two fleets; BadFleet where one is none."""
    if not is_fleet(ahead) or not is_fleet(behind):
        raise BadFleet("each boat has a timber or more, and no two have one in common")
    return [(at, to) for at, one in enumerate(ahead) for to, other in enumerate(behind) if same(one, other)]

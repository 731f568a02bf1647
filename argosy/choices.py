"""The next boats as which a boat can go on, counted and told by their numbers without listing them."""

from argosy.bounds import need_boat, need_slip
from argosy.counts import ways
from argosy.errors import BadFleet, NoChoice
from argosy.timbers import apart, common, many_common, rising


def need_choosing(boat, others, slip):
    """BadNumber where it is no slip, BadFleet where the boat is none for it, or has one of the others."""
    need_slip(slip)
    need_boat(boat, slip)
    if many_common(boat, others) > 0:
        raise BadFleet("the boat has a timber that is among the others")


def groups(boat, others, slip):
    """The triples (kept, new, many), in the order of choices: many choices keep so many timbers and have so many new.

    Boat and others are rising here, as in the defs below.
    """
    told = []
    for kept in range(len(boat) // 2 + 1, len(boat) + 1):
        # More than half of the next boat is kept, too: so fewer are new than are kept.
        for new in range(min(kept - 1, slip - kept, len(others)) + 1):
            told.append((kept, new, ways(len(boat), kept) * ways(len(others), new)))
    return told


def taken_at(timbers, many, place):
    """So many of the timbers, as the rising tuples of so many of them have it at this place."""
    taken = []
    for at, timber in enumerate(timbers):
        # Those that take this timber now stand ahead of those that take a later one.
        taking = ways(len(timbers) - at - 1, many - len(taken) - 1)
        if place < taking:
            taken.append(timber)
        else:
            place -= taking
    return taken


def place_of(timbers, taken):
    """The place of some of the timbers among the rising tuples of as many of them."""
    place = 0
    left = len(taken)
    for at, timber in enumerate(timbers):
        if timber in taken:
            left -= 1
        else:
            place += ways(len(timbers) - at - 1, left - 1)
    return place


def choices(boat, others, slip):
    """How many choices there are; BadNumber, BadFleet."""
    need_choosing(boat, others, slip)
    return sum([many for kept, new, many in groups(rising(boat), rising(others), slip)])


def choice(boat, others, slip, number):
    """The timbers of the choice of that number; BadNumber, BadFleet, NoChoice where there is none."""
    need_choosing(boat, others, slip)
    timbers, loose = rising(boat), rising(others)
    left = number
    for kept, new, many in groups(timbers, loose, slip):
        if 0 <= left < many:
            each = ways(len(loose), new)
            return rising(taken_at(timbers, kept, left // each) + taken_at(loose, new, left % each))
        left -= many
    raise NoChoice("there is no choice of that number")


def number_of(boat, others, slip, next_boat):
    """The number of a choice; BadNumber, BadFleet, NoChoice where the next boat is none."""
    need_choosing(boat, others, slip)
    timbers, loose = rising(boat), rising(others)
    old, fresh = common(next_boat, timbers), apart(next_boat, timbers)
    ahead = 0
    for kept, new, many in groups(timbers, loose, slip):
        if (kept, new) == (len(old), len(fresh)) and apart(fresh, loose) == []:
            return ahead + place_of(timbers, old) * ways(len(loose), new) + place_of(loose, fresh)
        ahead += many
    raise NoChoice("the next boat is none of the choices")

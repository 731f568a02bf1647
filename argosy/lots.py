"""How likely boats are to go on when fleets are made anew by lot."""

from argosy.bounds import MOST_BOATS, MOST_SLIP
from argosy.counts import ways
from argosy.errors import BadNumber
from argosy.parts import lowest, plus


def is_size(number):
    """True where a boat of a fleet can have so many timbers."""
    return 1 <= number <= MOST_SLIP


def need_sizes(sizes):
    """BadNumber where a list is none of a fleet's sizes."""
    if not 1 <= len(sizes) <= MOST_BOATS or not all([is_size(size) for size in sizes]):
        raise BadNumber("a fleet has 1 to 8 boats of 1 to 12 timbers")


def need_fleets(ahead, behind):
    """BadNumber where a list is none of a fleet's sizes, or there are more timbers behind than ahead."""
    need_sizes(ahead)
    need_sizes(behind)
    if sum(behind) > sum(ahead):
        raise BadNumber("behind there are no more timbers than ahead")


def need_place(sizes, place):
    """BadNumber where a place is none of a list."""
    if not 0 <= place < len(sizes):
        raise BadNumber("there is no boat at that place")


def need_drawing(ahead, at, size, drawn, mine):
    """BadNumber where so many timbers can't be drawn, or so many of them not of that boat."""
    if not is_size(size) or size > sum(ahead) or not 0 <= drawn <= size:
        raise BadNumber("a boat is dealt 1 to 12 timbers, no more than there are")
    if not 0 <= mine <= ahead[at] or not 0 <= drawn - mine <= sum(ahead) - ahead[at]:
        raise BadNumber("no more timbers of the boat and of the others are drawn than there are")


def reckoned(ahead, at, size, drawn, mine):
    """The chance that a boat goes on as one of this size, of which so many timbers were drawn, so many of the boat."""
    own = ahead[at] - mine
    strange = sum(ahead) - ahead[at] - (drawn - mine)
    left = size - drawn
    # More than half of the boat's timbers and of the other's: these are to be drawn of the boat yet.
    missing = max(ahead[at], size) // 2 + 1 - mine
    good = sum([ways(own, more) * ways(strange, left - more) for more in range(max(missing, 0), left + 1)])
    return lowest(good, ways(own + strange, left))


def total(parts):
    """The sum of a list of parts."""
    told = (0, 1)
    for part in parts:
        told = plus(told, part)
    return told


def goes_as(ahead, at, behind, to):
    """The chance that a boat goes on as one of those behind; BadNumber, so with the defs below."""
    need_fleets(ahead, behind)
    need_place(ahead, at)
    need_place(behind, to)
    # Whatever is dealt to the other boats behind, each way to deal this one is as likely as each other one.
    return reckoned(ahead, at, behind[to], 0, 0)


def goes_on(ahead, at, behind):
    """The chance that a boat goes on at all."""
    need_fleets(ahead, behind)
    need_place(ahead, at)
    # It goes on as one boat at most, so the chances add up.
    return total([goes_as(ahead, at, behind, to) for to in range(len(behind))])


def mean_going(ahead, behind):
    """The mean of how many boats go on."""
    need_fleets(ahead, behind)
    return total([goes_on(ahead, at, behind) for at in range(len(ahead))])


def dealt(ahead, at, size, drawn, mine):
    """The chance, while one of this size is dealt its timbers, that a boat goes on as this one."""
    need_sizes(ahead)
    need_place(ahead, at)
    need_drawing(ahead, at, size, drawn, mine)
    return reckoned(ahead, at, size, drawn, mine)

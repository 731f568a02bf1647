"""Which chains of boats are good."""

from argosy.bounds import is_day, is_timber
from argosy.likeness import same


def rises(numbers):
    """True where each number is greater than the one ahead of it."""
    return all([ahead < behind for ahead, behind in zip(numbers, numbers[1:])])


def is_boat(slip, timbers):
    """True where a tuple is of 1 timber to as many as the slip, rising."""
    return 1 <= len(timbers) <= slip and all([is_timber(timber) for timber in timbers]) and rises(timbers)


def judged(slip, chain):
    """True where a list of pairs (day, timbers) is a good chain for a slip, else False."""
    days = [day for day, timbers in chain]
    boats = [timbers for day, timbers in chain]
    if len(chain) == 0 or not all([is_day(day) for day in days]) or not rises(days):
        return False
    if not all([is_boat(slip, boat) for boat in boats]):
        return False
    return all([same(ahead, behind) for ahead, behind in zip(boats, boats[1:])])

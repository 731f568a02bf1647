"""The bounds of days, timbers, slips, names and boats, and what is refused beyond them."""

from argosy.errors import BadFleet, BadNumber
from argosy.timbers import rising

LAST_DAY = 400
MOST_TIMBERS = 60
MOST_SLIP = 12
MOST_BOATS = 8


def is_day(number):
    """True where a number is a day."""
    return 1 <= number <= LAST_DAY


def is_timber(number):
    """True where a number is a timber."""
    return 1 <= number <= MOST_TIMBERS


def is_slip(number):
    """True where a number is a slip."""
    return 1 <= number <= MOST_SLIP


def name_of(day, place):
    """The name of a boat that is founded on a day by the set at this place of a fact."""
    return 10 * day + place


def is_name(number):
    """True where a number lies between the least name and the greatest."""
    return name_of(1, 0) <= number <= name_of(LAST_DAY, MOST_BOATS - 1)


def need_day(number):
    """BadNumber where a number is no day."""
    if not is_day(number):
        raise BadNumber("a day is a number from 1 to 400")


def need_slip(number):
    """BadNumber where a number is no slip."""
    if not is_slip(number):
        raise BadNumber("a slip is a number from 1 to 12")


def need_boat(timbers, slip):
    """BadFleet where a list has no timbers, or more than the slip."""
    if not 1 <= len(rising(timbers)) <= slip:
        raise BadFleet("a boat has 1 timber to as many as the slip")

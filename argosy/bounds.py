"""The bounds of days, timbers, slips and names."""

LAST_DAY = 400
MOST_TIMBERS = 60
MOST_SLIP = 12
MOST_BOATS = 8


def is_day(number):
    """True where a number is a day."""
    return 1 <= number <= LAST_DAY


def is_timber(number):
    """True where a number is a timber."""
    return 1 <= number <= MOST_TIMBERS


def is_slip(number):
    """True where a number is a slip."""
    return 1 <= number <= MOST_SLIP


def name_of(day, place):
    """The name of a boat that is founded on a day by the set at this place of a fact."""
    return 10 * day + place


def is_name(number):
    """True where a number lies between the least name and the greatest."""
    return name_of(1, 0) <= number <= name_of(LAST_DAY, MOST_BOATS - 1)

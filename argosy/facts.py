"""Which facts are sound: a word, and just what it asks."""

from argosy.bounds import MOST_BOATS, MOST_TIMBERS, is_name, is_timber

MOST_COINS = 1000000


def is_number(thing):
    """True where a thing is a whole number."""
    return isinstance(thing, int) and not isinstance(thing, bool)


def are_numbers(thing):
    """True where a thing is a tuple of numbers alone."""
    return isinstance(thing, tuple) and all([is_number(one) for one in thing])


def are_unlike(numbers):
    """True where no two numbers are alike."""
    return len(set(numbers)) == len(numbers)


def are_timbers(thing):
    """True where a thing is a tuple of timbers, one or more."""
    return are_numbers(thing) and len(thing) > 0 and all([is_timber(one) for one in thing])


def are_names(thing):
    """True where a thing is a tuple of names as a refit may have them."""
    if not are_numbers(thing) or len(thing) > MOST_BOATS:
        return False
    return all([is_name(one) for one in thing]) and are_unlike(thing)


def are_sets(slip, thing):
    """True where a thing is a tuple of sets as a refit may have them."""
    if not isinstance(thing, tuple) or len(thing) > MOST_BOATS:
        return False
    if not all([are_timbers(timbers) and len(timbers) <= slip for timbers in thing]):
        return False
    return are_unlike([timber for timbers in thing for timber in timbers])


def fell_is_sound(slip, asked):
    """Of what stands behind the word fell; so with the words below."""
    return len(asked) == 1 and is_number(asked[0]) and 1 <= asked[0] <= MOST_TIMBERS


def refit_is_sound(slip, asked):
    """The one word for which the slip counts."""
    if len(asked) != 2 or not are_names(asked[0]) or not are_sets(slip, asked[1]):
        return False
    return len(asked[0]) > 0 or len(asked[1]) > 0


def moving_is_sound(slip, asked):
    """Of storm and find."""
    return len(asked) == 1 and are_timbers(asked[0]) and are_unlike(asked[0])


def money_is_sound(slip, asked):
    """Of lend and pay."""
    if len(asked) != 2 or not is_number(asked[0]) or not is_number(asked[1]):
        return False
    return is_name(asked[0]) and 1 <= asked[1] <= MOST_COINS


def clear_is_sound(slip, asked):
    """Of clear."""
    return len(asked) == 1 and is_number(asked[0]) and is_timber(asked[0])


SOUND = {
    "fell": fell_is_sound,
    "refit": refit_is_sound,
    "storm": moving_is_sound,
    "find": moving_is_sound,
    "lend": money_is_sound,
    "pay": money_is_sound,
    "clear": clear_is_sound,
}


def sound(slip, fact):
    """True where a fact is sound for a slip, else False."""
    if len(fact) == 0 or fact[0] not in SOUND:
        return False
    is_sound = SOUND[fact[0]]
    return is_sound(slip, fact[1:])

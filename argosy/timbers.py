"""Lists of timbers: handed in in any order, told rising and each once."""


def rising(timbers):
    """The timbers of a list, each once."""
    return sorted(set(timbers))


def common(one, other):
    """The timbers that are in both lists."""
    return sorted(set(one) & set(other))


def apart(one, other):
    """The timbers of the first list that aren't in the second."""
    return sorted(set(one) - set(other))


def many_common(one, other):
    """How many timbers are in both lists."""
    return len(set(one) & set(other))

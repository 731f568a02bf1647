"""Who has gathered the first timbers of a name."""

from argosy.timbers import many_common


def gathered(yard, name):
    """The name of the boat afloat that has more than half of a name's first timbers, or None; NoName."""
    first = yard.first(name)
    for other in yard.boats():
        if 2 * many_common(first, yard.boat(other)) > len(first):
            return other
    return None


def quarrels(yard):
    """The pairs (name, other) of each name ever given that a boat of another name has gathered."""
    told = []
    for name in yard.names():
        other = gathered(yard, name)
        if other is not None and other != name:
            told.append((name, other))
    return told

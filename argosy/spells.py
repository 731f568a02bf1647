"""The spells of a boat and of a timber by a diary, and what differs between two diaries."""

from argosy.timbers import rising


def stretches(pairs, last):
    """The triples (first, last, thing) of pairs (day, thing): each up to the next one, and at the end up to last."""
    ends = [day - 1 for day, thing in pairs[1:]] + [last]
    return [(day, end, thing) for (day, thing), end in zip(pairs, ends)]


def boat_spells(diary, name, last):
    """The triples (first, last, timbers) of a name up to a last day; BadNumber."""
    yard = diary.yard(last)
    if name not in yard.names():
        return []
    down = yard.down(name)
    # On the day on which it goes down it is afloat no more.
    return stretches(yard.chain(name), last if down is None else down - 1)


def timber_spells(diary, timber, last):
    """The triples (first, last, place) of a timber up to a last day; BadNumber."""
    yard = diary.yard(last)
    if not 1 <= timber <= yard.felled():
        return []
    return stretches(yard.line(timber), last)


def boats_afloat(yard):
    """The timbers of each boat afloat, tuples by their names."""
    return {name: tuple(yard.boat(name)) for name in yard.boats()}


def differs(one, other, day):
    """The triples (name, timbers, other) of the boats that differ on a day between two diaries; BadNumber."""
    here, there = boats_afloat(one.yard(day)), boats_afloat(other.yard(day))
    names = [name for name in rising(list(here) + list(there)) if here.get(name) != there.get(name)]
    return [(name, here.get(name), there.get(name)) for name in names]

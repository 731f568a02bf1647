"""The fewest refits that carry a name from a boat, the start, to wished timbers, the goal."""

from argosy.bounds import need_boat, need_slip
from argosy.timbers import apart, common, rising


def need_carrying(start, goal, slip):
    """BadNumber where it is no slip, BadFleet where start or goal is no boat for it."""
    need_slip(slip)
    need_boat(start, slip)
    need_boat(goal, slip)


def timbers_by_kind(start, goal):
    """The timbers of the start alone, of both, and of the goal alone."""
    return [apart(start, goal), common(start, goal), apart(goal, start)]


def stage_of(boat, start, goal):
    """The stage of a boat on its way."""
    alone, both, wished = [len(common(boat, timbers)) for timbers in timbers_by_kind(start, goal)]
    return (alone, both, wished)


def near(one, other):
    """True where a refit can lead from a boat of the one stage to some boat of the other and go on, else False."""
    shared = sum([min(here, there) for here, there in zip(one, other)])
    return 2 * shared > sum(one) and 2 * shared > sum(other)


def stages(start, goal, slip):
    """The list of all stages, rising; BadNumber, BadFleet; so with the defs below that take a slip."""
    need_carrying(start, goal, slip)
    most_alone, most_both, most_wished = [len(timbers) for timbers in timbers_by_kind(start, goal)]
    return [
        (alone, both, wished)
        for alone in range(most_alone + 1)
        for both in range(most_both + 1)
        for wished in range(most_wished + 1)
        if 1 <= alone + both + wished <= slip
    ]


def first_near(stage, others):
    """The first of the other stages that is near, or None."""
    for other in others:
        if near(stage, other):
            return other
    return None


def rings(start, goal, slip):
    """The lists of the stages that are no refit, one, two and so on from the goal, as far as it can be reached."""
    ring = [stage_of(goal, start, goal)]
    left = stages(start, goal, slip)
    told = []
    while ring != []:
        told.append(ring)
        left = [stage for stage in left if stage not in ring]
        ring = [stage for stage in left if first_near(stage, ring) is not None]
    return told


def height_of(stage, told):
    """The height of a stage by the told rings, or None where it is in none of them."""
    for height, ring in enumerate(told):
        if stage in ring:
            return height
    return None


def heights(start, goal, slip):
    """The table that has the fewest refits to the goal as its heights."""
    told = rings(start, goal, slip)
    return [stage + (height_of(stage, told),) for stage in stages(start, goal, slip)]


def fewest(start, goal, slip):
    """The number of the fewest refits from the start to the goal, or None where none lead there."""
    return height_of(stage_of(start, start, goal), rings(start, goal, slip))


def refitted(boat, stage, start, goal):
    """A boat of a stage that has as much as can be in common with the boat."""
    told = []
    for timbers, many in zip(timbers_by_kind(start, goal), stage):
        told.extend((common(timbers, boat) + apart(timbers, boat))[:many])
    return rising(told)


def carried(start, goal, slip):
    """A plan of the fewest refits, or None where there is none."""
    told = rings(start, goal, slip)
    height = height_of(stage_of(start, start, goal), told)
    if height is None:
        return None
    plan = []
    boat = rising(start)
    for ring in reversed(told[:height]):
        boat = refitted(boat, first_near(stage_of(boat, start, goal), ring), start, goal)
        plan.append(boat)
    return plan


def agree(one, other):
    """True where the heights of two near stages may stand side by side."""
    if one is None or other is None:
        return one is None and other is None
    return abs(one - other) <= 1


def good_table(start, goal, slip, table):
    """True where it is a good table, else False."""
    if [row[:3] for row in table] != stages(start, goal, slip):
        return False
    if stage_of(goal, start, goal) + (0,) not in table:
        return False
    if not all([height is None or height >= 0 for alone, both, wished, height in table]):
        return False
    for at, row in enumerate(table):
        for other in table[:at]:
            if not agree(row[3], other[3]) and near(row[:3], other[:3]):
                return False
    return True

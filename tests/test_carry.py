"""Points 1 to 4, 13 and 14, and the interface's section argosy/carry.py."""

import itertools
import random
import unittest

from argosy.carry import carried, fewest, good_table, heights, near, stages
from argosy.errors import BadFleet, BadNumber
from tests.plain import BIG, Refusing, plainly_same, some_of

NO_SLIPS = (0, -1, 13, 14, -12, BIG, -BIG)


def three_kinds(start, goal):
    return [set(start) - set(goal), set(start) & set(goal), set(goal) - set(start)]


def plain_stage(boat, start, goal):
    return tuple(len(kind & set(boat)) for kind in three_kinds(start, goal))


def boats_by_refits(start, goal, slip):
    """A search of its own: the fewest refits to the goal of each boat of their timbers, as far as it can be reached."""
    boats = [frozenset(row) for row in some_of(sorted(set(start) | set(goal))) if 1 <= len(row) <= slip]
    found = {frozenset(goal): 0}
    ring = [frozenset(goal)]
    while ring:
        behind = [boat for boat in boats if boat not in found and any(plainly_same(boat, other) for other in ring)]
        found.update((boat, found[ring[0]] + 1) for boat in behind)
        ring = behind
    return boats, found


def table_by_search(start, goal, slip):
    boats, found = boats_by_refits(start, goal, slip)
    by_stage = {}
    for boat in boats:
        by_stage.setdefault(plain_stage(boat, start, goal), set()).add(found.get(boat))
    # All boats of one stage are as far from the goal.
    assert all(len(some) == 1 for some in by_stage.values())
    return [stage + tuple(by_stage[stage]) for stage in sorted(by_stage)]


def small_pairs():
    """Starts and goals with none, some and all timbers in common, with each slip that holds both."""
    for alone, both, wished in itertools.product(range(5), range(4), range(5)):
        many = max(alone, wished) + both
        if alone + both and wished + both and alone + both + wished <= 7:
            timbers = [7, 2, 60, 1, 33, 8, 40]
            start, goal = timbers[:alone + both], timbers[alone:alone + both + wished]
            for slip in (many, many + 1, 12):
                yield start, goal, min(slip, 12)


def calls(start, goal, slip, table=()):
    """The five calls that ask the slip."""
    return (
        lambda: stages(start, goal, slip),
        lambda: heights(start, goal, slip),
        lambda: fewest(start, goal, slip),
        lambda: carried(start, goal, slip),
        lambda: good_table(start, goal, slip, list(table)),
    )


class Carry(Refusing):
    def assert_near(self, one, other, wished):
        self.assertIs(near(one, other), wished)
        self.assertIs(near(other, one), wished)

    def assert_good(self, start, goal, slip, table, wished):
        ahead = list(table)
        self.assertIs(good_table(start, goal, slip, table), wished)
        self.assertEqual(table, ahead)

    def assert_plan(self, start, goal, slip):
        """Each boat of the plan, the count of them, and what the table says of the start."""
        plan, many = carried(start, goal, slip), fewest(start, goal, slip)
        height = dict((row[:3], row[3]) for row in heights(start, goal, slip))[plain_stage(start, start, goal)]
        self.assertEqual((many, type(many)), (height, type(height)))
        if many is None:
            self.assertIsNone(plan)
            return None
        self.assertEqual((len(plan), type(plan)), (many, list))
        for ahead, boat in zip([start] + plan, plan):
            self.assertIs(type(boat), list)
            self.assertEqual(boat, sorted(set(boat)))
            self.assertEqual(set(boat) - set(start) - set(goal), set())
            self.assertLessEqual(len(boat), slip)
            self.assertTrue(plainly_same(ahead, boat))
        self.assertEqual(([start] + plan)[-1] if plan else sorted(set(start)), sorted(set(goal)))
        return many


class Near(Carry):
    def test_just_half_in_common_one_more_and_one_less(self):
        self.assert_near((4, 0, 0), (2, 0, 2), False)
        self.assert_near((4, 0, 0), (3, 0, 1), True)
        self.assert_near((4, 0, 0), (1, 0, 3), False)
        self.assert_near((2, 2, 0), (0, 2, 2), False)
        self.assert_near((2, 3, 0), (0, 3, 2), True)
        self.assert_near((2, 1, 0), (0, 1, 2), False)
        self.assert_near((2, 0, 0), (1, 0, 0), False)
        self.assert_near((3, 0, 0), (2, 0, 0), True)
        self.assert_near((3, 0, 0), (1, 0, 0), False)

    def test_more_than_half_of_both(self):
        self.assert_near((1, 1, 1), (1, 1, 2), True)
        self.assert_near((1, 1, 1), (2, 2, 2), False)
        self.assert_near((1, 1, 1), (2, 2, 1), True)
        self.assert_near((0, 0, 3), (3, 0, 3), False)
        self.assert_near((0, 0, 3), (2, 0, 3), True)

    def test_noughts(self):
        self.assert_near((0, 0, 0), (0, 0, 0), False)
        self.assert_near((0, 0, 0), (0, 0, 1), False)
        self.assert_near((0, 0, 1), (0, 0, 1), True)
        self.assert_near((1, 0, 0), (0, 0, 1), False)
        self.assert_near((0, 1, 0), (1, 0, 1), False)

    def test_large_numbers(self):
        self.assert_near((BIG, 0, 0), (BIG, 0, BIG - 1), True)
        self.assert_near((BIG, 0, 0), (BIG, 0, BIG), False)

    def test_against_the_boats(self):
        timbers = [range(1, 4), range(11, 14), range(21, 24)]
        boats = {}
        for many in itertools.product(range(4), repeat=3):
            kinds = [itertools.combinations(kind, some) for kind, some in zip(timbers, many)]
            boats[many] = [sum(row, ()) for row in itertools.product(*kinds)]
        for one, other in itertools.product(boats, repeat=2):
            # Timbers of one kind are as good as one another, so one boat stands for its stage.
            wished = any(plainly_same(boats[one][0], boat) for boat in boats[other])
            self.assertIs(near(one, other), wished)


class Stages(Carry):
    def test_against_the_boats(self):
        for start, goal, slip in small_pairs():
            boats = [row for row in some_of(sorted(set(start) | set(goal))) if 1 <= len(row) <= slip]
            wished = sorted({plain_stage(boat, start, goal) for boat in boats})
            told = stages(start, goal, slip)
            self.assertEqual((told, type(told)), (wished, list))

    def test_some_of_them(self):
        self.assertEqual(stages([5], [5], 1), [(0, 1, 0)])
        self.assertEqual(stages([5], [6], 1), [(0, 0, 1), (1, 0, 0)])
        self.assertEqual(stages([5], [6], 2), [(0, 0, 1), (1, 0, 0), (1, 0, 1)])
        self.assertEqual(
            stages([1, 2], [2, 3], 2), [(0, 0, 1), (0, 1, 0), (0, 1, 1), (1, 0, 0), (1, 0, 1), (1, 1, 0)])

    def test_in_any_order_and_some_twice(self):
        self.assertEqual(stages([9, 4, 9], [4, 7, 4, 4], 3), stages([4, 9], [4, 7], 3))
        self.assertEqual(stages([9, 4, 9], [4, 7, 4, 4], 3), stages([50, 51], [51, 1], 3))

    def test_that_they_rise_where_there_are_many(self):
        for both in range(13):
            start, goal = list(range(1, 13)), list(range(13 - both, 25 - both))
            told = stages(start, goal, 12)
            self.assertTrue(all(one < other for one, other in zip(told, told[1:])))
            many = itertools.product(range(13 - both), range(both + 1), range(13 - both))
            self.assertEqual(len(told), len([row for row in many if 1 <= sum(row) <= 12]))
            self.assertTrue(all(type(row) is tuple and len(row) == 3 for row in told))


class Heights(Carry):
    def test_against_a_search(self):
        reached = set()
        for start, goal, slip in small_pairs():
            told = heights(start, goal, slip)
            self.assertEqual((told, type(told)), (table_by_search(start, goal, slip), list))
            self.assert_good(start, goal, slip, told, True)
            self.assertEqual([row[:3] for row in told], stages(start, goal, slip))
            reached.update(row[3] for row in told)
        self.assertTrue({None, 0, 1, 2, 3, 4} <= reached)

    def test_where_the_goal_cannot_be_reached(self):
        self.assertEqual(heights([5], [6], 1), [(0, 0, 1, 0), (1, 0, 0, None)])
        self.assertEqual(heights([5], [6], 12), [(0, 0, 1, 0), (1, 0, 0, None), (1, 0, 1, None)])
        self.assertEqual(
            heights([1, 2], [2, 3], 2),
            [(0, 0, 1, None), (0, 1, 0, None), (0, 1, 1, 0), (1, 0, 0, None), (1, 0, 1, None), (1, 1, 0, None)])

    def test_the_table_told_is_good_where_there_are_many_stages(self):
        for both in (0, 1, 4, 6, 11, 12):
            start, goal = list(range(1, 13)), list(range(13 - both, 25 - both))
            self.assert_good(start, goal, 12, heights(start, goal, 12), True)
            self.assert_good(start, goal[:7], 12, heights(start, goal[:7], 12), True)


class Plans(Carry):
    def test_small_ones(self):
        for start, goal, slip in small_pairs():
            _, found = boats_by_refits(start, goal, slip)
            self.assertEqual(self.assert_plan(start, goal, slip), found.get(frozenset(start)))

    def test_the_start_is_the_goal(self):
        full = list(range(1, 13))
        for start, goal in (([5], [5]), ([1, 2, 3], [3, 1, 2]), ([1, 1, 2], [2, 2, 1]), (full, full[::-1])):
            for slip in range(len(set(start)), 13):
                self.assertEqual(carried(start, goal, slip), [])
                self.assertEqual((fewest(start, goal, slip), type(fewest(start, goal, slip))), (0, int))

    def test_one_refit(self):
        self.assertEqual(carried([3, 1, 2], [2, 9, 1, 9], 3), [[1, 2, 9]])
        self.assertEqual(fewest([3, 1, 2], [2, 9, 1, 9], 3), 1)

    def test_none(self):
        for start, goal, slip in (
            ([5], [6], 1), ([5], [6], 12), ([5], [5, 6], 12), ([1, 2], [2, 3], 2), ([1, 2], [3], 12),
        ):
            self.assertIsNone(carried(start, goal, slip))
            self.assertIsNone(fewest(start, goal, slip))

    def test_a_longer_slip_helps(self):
        self.assertEqual((fewest([1, 2], [2, 3], 2), fewest([1, 2], [2, 3], 3)), (None, 2))
        self.assertEqual((fewest([1, 2], [3, 4], 2), fewest([1, 2], [3, 4], 3)), (None, 3))
        self.assertEqual(carried([1, 2], [2, 3], 3), [[1, 2, 3], [2, 3]])

    def test_as_many_timbers_as_the_slip(self):
        told = {
            both: self.assert_plan(list(range(1, 13)), list(range(13 - both, 25 - both)), 12) for both in range(13)}
        self.assertEqual([told[both] for both in range(13)], [3, 3, 2, 2, 2, 2, 2, 1, 1, 1, 1, 1, 0])

    def test_each_slip_with_boats_that_fill_it(self):
        for slip in range(1, 13):
            for both in range(slip + 1):
                start, goal = list(range(1, slip + 1)), list(range(slip - both + 1, 2 * slip - both + 1))
                many = self.assert_plan(start, goal, slip)
                self.assertEqual(many is None, slip <= 2 and both < slip)

    def test_drawn(self):
        chance = random.Random(13)
        for _ in range(60):
            slip = chance.randint(1, 12)
            timbers = chance.sample(range(1, 61), chance.randint(2, 24))
            start = chance.choices(timbers, k=chance.randint(1, slip))
            goal = chance.choices(timbers, k=chance.randint(1, slip))
            self.assert_plan(start, goal, slip)
            # A plan leads back, too.
            self.assertEqual(fewest(start, goal, slip), fewest(goal, start, slip))

    def test_numbers_somewhat_beyond_those_of_timbers(self):
        self.assertEqual(carried([0, 61, 62], [61, -1, 0], 3), [[-1, 0, 61]])


class GoodTables(Carry):
    def tables(self):
        for start, goal, slip in (
            ([1, 2, 3], [3, 4, 5], 3), ([1, 2, 3], [3, 4, 5], 5), ([1, 2], [2, 3], 2), ([5], [6], 1), ([5], [5], 3),
        ):
            yield start, goal, slip, heights(start, goal, slip)

    def plainly_good(self, start, goal, table):
        """Of a table of which the stages are right."""
        known = {row[:3]: row[3] for row in table}
        if any(height is not None and height < 0 for height in known.values()):
            return False
        if known[plain_stage(goal, start, goal)] != 0:
            return False
        for one, other in itertools.combinations(known, 2):
            if near(one, other):
                some = [known[one], known[other]]
                if some.count(None) == 1 or (None not in some and abs(some[0] - some[1]) > 1):
                    return False
        return True

    def test_one_height_is_another(self):
        seen = set()
        for start, goal, slip, table in self.tables():
            for at, row in enumerate(table):
                for height in (None, 0, 1, 2, 3, 4, 5, -1, -2, BIG, -BIG):
                    other = table[:at] + [row[:3] + (height,)] + table[at + 1:]
                    wished = self.plainly_good(start, goal, other)
                    self.assert_good(start, goal, slip, other, wished)
                    seen.add((height is None, row[3] is None, wished))
        for wished in ((True, False, False), (False, True, False), (False, False, False), (False, False, True)):
            self.assertIn(wished, seen)

    def test_a_height_off_by_two(self):
        table = heights([1, 2, 3], [4, 5, 6], 3)
        for at, row in enumerate(table):
            if row[3] is not None:
                for more in (2, 3, -2, 40):
                    other = table[:at] + [row[:3] + (row[3] + more,)] + table[at + 1:]
                    self.assert_good([1, 2, 3], [4, 5, 6], 3, other, self.plainly_good([1, 2, 3], [4, 5, 6], other))

    def test_none_for_a_number_and_a_number_for_none(self):
        # Of the first the start is near; of the second no stage is near but the goal's, which is near to none.
        table = heights([1, 2, 3], [2, 3, 4], 3)
        at = [row[:3] for row in table].index((1, 2, 0))
        self.assert_good([1, 2, 3], [2, 3, 4], 3, table[:at] + [(1, 2, 0, None)] + table[at + 1:], False)
        self.assert_good([5], [6], 1, [(0, 0, 1, 0), (1, 0, 0, None)], True)
        self.assert_good([5], [6], 1, [(0, 0, 1, 0), (1, 0, 0, 7)], True)
        self.assert_good([5], [6], 1, [(0, 0, 1, None), (1, 0, 0, None)], False)
        self.assert_good([5], [6], 1, [(0, 0, 1, 0), (1, 0, 0, -1)], False)
        self.assert_good([5], [6], 1, [(0, 0, 1, 1), (1, 0, 0, 0)], False)

    def test_the_height_of_the_goal(self):
        for height in (1, 2, -1, None, BIG, -BIG):
            self.assert_good([5], [5], 3, [(0, 1, 0, height)], False)
        self.assert_good([5], [5], 3, [(0, 1, 0, 0)], True)

    def test_all_heights_of_one_more(self):
        for start, goal, slip, table in self.tables():
            other = [row[:3] + (None if row[3] is None else row[3] + 1,) for row in table]
            self.assert_good(start, goal, slip, other, False)

    def test_all_heights_halved(self):
        for start, goal, slip, table in self.tables():
            halved = [row[:3] + (None if row[3] is None else row[3] // 2,) for row in table]
            # They differ by less, so it is good, though its heights aren't the fewest refits.
            self.assert_good(start, goal, slip, halved, True)

    def test_all_noughts_and_all_none(self):
        table = heights([1, 2, 3], [3, 4, 5], 5)
        reached = [row[:3] + (None if row[3] is None else 0,) for row in table]
        self.assert_good([1, 2, 3], [3, 4, 5], 5, reached, True)
        self.assert_good([1, 2, 3], [3, 4, 5], 5, [row[:3] + (0,) for row in table], True)
        self.assert_good([1, 2, 3], [3, 4, 5], 5, [row[:3] + (None,) for row in table], False)

    def test_rows_left_out_twice_or_exchanged(self):
        for start, goal, slip, table in self.tables():
            for at in range(len(table)):
                self.assert_good(start, goal, slip, table[:at] + table[at + 1:], False)
                self.assert_good(start, goal, slip, table[:at + 1] + table[at:], False)
                if at:
                    swapped = table[:at - 1] + [table[at], table[at - 1]] + table[at + 1:]
                    self.assert_good(start, goal, slip, swapped, False)
            self.assert_good(start, goal, slip, [], False)

    def test_a_stage_that_is_none(self):
        for start, goal, slip, table in self.tables():
            for strange in ((0, 0, 0, None), (0, 0, 0, 0), (13, 0, 0, None), (-1, 1, 1, None), (0, BIG, 0, 1)):
                self.assert_good(start, goal, slip, sorted(table + [strange], key=lambda row: row[:3]), False)
                self.assert_good(start, goal, slip, table + [strange], False)
                self.assert_good(start, goal, slip, [strange] + table, False)
                self.assert_good(start, goal, slip, [strange] + table[1:], False)

    def test_a_table_of_another_slip(self):
        table = heights([1, 2, 3], [3, 4, 5], 4)
        for slip in (3, 5):
            self.assert_good([1, 2, 3], [3, 4, 5], slip, table, False)
        self.assert_good([1, 2, 3], [3, 4, 5], 4, table, True)

    def test_by_it_no_plan_has_fewer_refits(self):
        chance = random.Random(14)
        good = 0
        for start, goal, slip, table in self.tables():
            for _ in range(300):
                drawn = [None if row[3] is None else chance.choice([row[3], row[3], 0, 1]) for row in table]
                other = [row[:3] + (height,) for row, height in zip(table, drawn)]
                if good_table(start, goal, slip, other):
                    good += 1
                    first = dict((row[:3], row[3]) for row in other)[plain_stage(start, start, goal)]
                    self.assertTrue(first is None or first <= fewest(start, goal, slip))
        self.assertGreater(good, 100)


class Refusals(Carry):
    def test_no_slip(self):
        for slip in NO_SLIPS:
            self.assert_refused(BadNumber, *calls([1], [2], slip))
        for slip in range(1, 13):
            self.assertEqual([call() for call in calls([1], [1], slip)], [[(0, 1, 0)], [(0, 1, 0, 0)], 0, [], False])

    def test_without_timbers(self):
        for start, goal in (([], [1]), ([1], []), ([], [])):
            for slip in (1, 5, 12):
                self.assert_refused(BadFleet, *calls(start, goal, slip))

    def test_more_timbers_than_the_slip(self):
        for slip in range(1, 13):
            full = list(range(1, slip + 1))
            over = full + [60]
            for start, goal in ((over, full), (full, over), (over, over), (over, [1]), ([1], over)):
                self.assert_refused(BadFleet, *calls(start, goal, slip))
            # A timber that stands there twice counts once.
            self.assertEqual(fewest(full + full, full + [1], slip), 0)

    def test_which_one_goes_first(self):
        for slip in NO_SLIPS:
            for start, goal in (([], [1]), ([1], []), ([], []), (list(range(1, 15)), [1]), ([1], list(range(1, 15)))):
                self.assert_refused(BadNumber, *calls(start, goal, slip, [(0, 0, 0, -1)]))


class TheLists(Carry):
    def test_those_handed_in_stay(self):
        start, goal = [3, 1, 2, 3], [9, 3, 8, 8]
        table = heights(start, goal, 4)
        for call in calls(start, goal, 4, table):
            call()
            self.assertEqual((start, goal), ([3, 1, 2, 3], [9, 3, 8, 8]))
        self.assertEqual(table, heights(start, goal, 4))

    def test_those_told_may_be_changed(self):
        start, goal = [1, 2, 3], [1, 2, 9]
        for _ in range(2):
            plan, table, rows = carried(start, goal, 3), heights(start, goal, 3), stages(start, goal, 3)
            self.assertEqual((plan, len(table)), ([[1, 2, 9]], len(rows)))
            self.assertTrue(good_table(start, goal, 3, table))
            plan[-1].clear()
            plan.append(5)
            table.clear()
            rows.clear()
            self.assertEqual((start, goal), ([1, 2, 3], [1, 2, 9]))
        empty = carried(start, start, 3)
        empty.append([1])
        self.assertEqual(carried(start, start, 3), [])

    def test_lists_changed_behind_a_call(self):
        start, goal = [1, 2], [2, 3]
        self.assertIsNone(fewest(start, goal, 2))
        start.append(3)
        self.assertEqual((fewest(start, goal, 3), carried(start, goal, 3)), (1, [[2, 3]]))
        goal.append(1)
        self.assertEqual((fewest(start, goal, 3), carried(start, goal, 3)), (0, []))
        table = heights(start, goal, 3)
        self.assertTrue(good_table(start, goal, 3, table))
        table.pop()
        self.assertFalse(good_table(start, goal, 3, table))
        goal.clear()
        self.assert_refused(BadFleet, *calls(start, goal, 3, table))


if __name__ == "__main__":
    unittest.main()

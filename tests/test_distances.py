import random
import unittest

from nolitter.distances import distances, way_to
from nolitter.plans import checked, most_marks, sets_along, turned_plan, work
from nolitter.sets import come_to, moves_from
from nolitter.table import alone, reached
from tests.samples import clear, lay, least_works, number_of, random_costs


def samples():
    """Costs, alike and unlike, and spare places."""
    for n in range(1, 9):
        for s in range(9):
            yield random_costs(10 * n + s, n), s
    for n in range(1, 7):
        for costs in ([1] * n, list(range(1, n + 1)), list(range(n, 0, -1)), [1, 10 ** 9, 1, 10 ** 9, 1, 10 ** 9][:n]):
            for s in range(5):
                yield costs, s


class Distances(unittest.TestCase):
    def test_by_hand(self):
        for costs, s, told in (
                ([5], 0, {0: 0}),
                ([5], 1, {0: 0, 1: 5}),
                ([5], 8, {0: 0, 1: 5}),
                ([3, 5], 0, {0: 0}),
                ([3, 5], 1, {0: 0, 1: 3}),
                ([3, 5], 2, {0: 0, 1: 3, 2: 11, 3: 8}),
                ([1, 10, 100], 2, {0: 0, 1: 1, 2: 12, 3: 11, 6: 112}),
                # Marks 1, 2, 3 are laid; then 2 is cleared; or 1, to clear 2 by laying 1 anew.
                ([1, 10, 100], 3, {0: 0, 1: 1, 2: 12, 3: 11, 4: 122, 5: 121, 6: 112, 7: 111}),
                ([10 ** 9] * 2, 2, {0: 0, 1: 10 ** 9, 2: 3 * 10 ** 9, 3: 2 * 10 ** 9})):
            self.assertEqual(distances(costs, s), told, (costs, s))

    def test_keys_are_the_sets_come_to_rising(self):
        for costs, s in samples():
            self.assertEqual(list(distances(costs, s)), come_to(len(costs), s), (costs, s))

    def test_no_marks_are_no_work(self):
        for costs, s in samples():
            told = distances(costs, s)
            self.assertEqual([marks for marks in told if told[marks] == 0], [0])

    def test_moves_are_at_most_their_cost_apart_and_some_just_that(self):
        for costs, s in samples():
            told = distances(costs, s)
            nearer = {0}
            for marks in told:
                for word, k in moves_from(marks, len(costs), s):
                    other = marks ^ 2 ** (k - 1)
                    self.assertLessEqual(abs(told[marks] - told[other]), costs[k - 1])
                    if told[other] == told[marks] + costs[k - 1]:
                        nearer.add(other)
            self.assertEqual(nearer, set(told), (costs, s))

    def test_by_looking_at_all_ways(self):
        for costs, s in samples():
            if len(costs) <= 6:
                found = least_works(costs, s)
                self.assertEqual(distances(costs, s), {number_of(stand): found[stand] for stand in found}, (costs, s))

    def test_the_table_tells_the_same(self):
        for costs, s in samples():
            told, last = distances(costs, s), 2 ** (len(costs) - 1)
            self.assertEqual(alone(costs, s), told.get(last), (costs, s))
            come = [told[marks] for marks in told if marks & last]
            self.assertEqual(reached(costs, s), min(come, default=None), (costs, s))

    def test_eight_stretches_and_eight_places(self):
        costs = [2 ** (8 - k) for k in range(8)]
        told = distances(costs, 8)
        self.assertEqual(list(told), list(range(256)))
        self.assertEqual(told[255], sum(costs))
        self.assertEqual(told[128], alone(costs, 8))

    def test_many_random_costs(self):
        for seed in range(60):
            chance = random.Random(seed)
            costs, s = random_costs(seed, chance.randrange(1, 6)), chance.randrange(1, 5)
            found = least_works(costs, s)
            self.assertEqual(distances(costs, s), {number_of(stand): found[stand] for stand in found}, (costs, s))

    def test_what_is_handed_in_and_told(self):
        costs = [3, 5]
        told = distances(costs, 2)
        self.assertEqual(costs, [3, 5])
        told[3] = 0
        self.assertEqual(distances(costs, 2), {0: 0, 1: 3, 2: 11, 3: 8})
        told = distances(costs, 2)
        costs[0] = 100
        self.assertEqual(told, {0: 0, 1: 3, 2: 11, 3: 8})
        self.assertTrue(all(type(number) is int for number in list(told) + list(told.values())))


class WayTo(unittest.TestCase):
    def test_ways_of_just_the_distance(self):
        for costs, s in samples():
            n = len(costs)
            told = distances(costs, s)
            # Each way walks all sets anew, so of many sets only some are asked for.
            for marks in list(told)[::1 + len(told) // 40]:
                way = way_to(costs, s, marks)
                self.assertEqual(sets_along(way)[-1], marks)
                self.assertEqual(work(way, costs), told[marks])
                self.keeps_the_rules(way, n, s)

    def keeps_the_rules(self, way, n, s):
        self.assertIs(type(way), list)
        for marks, move in zip(sets_along(way), way):
            self.assertIn(move, moves_from(marks, n, s))
        self.assertLessEqual(most_marks(way), s)

    def test_by_hand(self):
        self.assertEqual(way_to([3, 5], 2, 2), lay(1, 2) + clear(1))
        self.assertEqual(way_to([1, 1, 1], 2, 6), lay(1, 2) + clear(1) + lay(3))
        self.assertEqual(way_to([1, 1, 1], 3, 7), lay(1, 2, 3))
        self.assertEqual(way_to([1, 1, 1], 3, 5), lay(1, 2, 3) + clear(2))

    def test_no_moves_to_none(self):
        for costs, s in samples():
            self.assertEqual(way_to(costs, s, 0), [])

    def test_none_for_sets_that_are_not_come_to(self):
        for costs, s in samples():
            n = len(costs)
            others = sorted(set(range(2 ** n)) - set(come_to(n, s)))
            for marks in others[::1 + len(others) // 40]:
                self.assertIsNone(way_to(costs, s, marks), (costs, s, marks))

    def test_none_for_numbers_beyond_all_marks(self):
        for costs, s in (([3, 5], 2), ([1], 1), ([1, 2, 3], 8), ([1] * 8, 8)):
            for marks in (2 ** len(costs), 2 ** len(costs) + 1, 2 ** 24, 10 ** 30):
                self.assertIsNone(way_to(costs, s, marks))

    def test_plans_of_the_least_work(self):
        for costs, s in samples():
            n, told = len(costs), distances(costs, s)
            last = 2 ** (n - 1)
            if last in told:
                self.assertEqual(checked(way_to(costs, s, last), n, s), "left")
            come = [marks for marks in told if marks & last]
            if come:
                way = way_to(costs, s, min(come, key=told.get))
                plan = way + [("show",)] + turned_plan(way)
                self.assertEqual(checked(plan, n, s), "shown")
                self.assertEqual(work(plan, costs), 2 * reached(costs, s))

    def test_what_is_handed_in_and_told(self):
        costs = [3, 5]
        way_to(costs, 2, 2).clear()
        self.assertEqual(costs, [3, 5])
        self.assertEqual(way_to(costs, 2, 2), lay(1, 2) + clear(1))


if __name__ == "__main__":
    unittest.main()

import unittest

from nolitter.planner import left_plan, shown_plan
from nolitter.plans import checked, most_marks, sets_along, turned_plan, work
from nolitter.table import alone, reached
from tests.samples import least_works, random_costs

SHOW = ("show",)


class Plans(unittest.TestCase):
    def look(self, costs, s):
        """Look at both plans for these costs; tell how many there are."""
        n = len(costs)
        left, shown = left_plan(costs, s), shown_plan(costs, s)
        self.assertEqual(left is None, s == 0 or n > 2 ** (s - 1))
        self.assertEqual(shown is None, n > 2 ** s - 1)
        if left is not None:
            self.of_its_kinds(left)
            self.assertEqual(checked(left, n, s), "left")
            self.assertEqual(work(left, costs), alone(costs, s))
        if shown is not None:
            self.of_its_kinds(shown)
            self.assertEqual(checked(shown, n, s), "shown")
            self.assertEqual(work(shown, costs), 2 * reached(costs, s))
        return (left is not None) + (shown is not None)

    def of_its_kinds(self, plan):
        self.assertIs(type(plan), list)
        for move in plan:
            self.assertIs(type(move), tuple)
            self.assertTrue(move == SHOW or len(move) == 2 and move[0] in ("lay", "clear") and type(move[1]) is int)


class EachSize(Plans):
    def test_equal_costs(self):
        many = sum(self.look([cost] * n, s) for cost in (1, 10 ** 9) for n in range(1, 25) for s in range(9))
        self.assertGreater(many, 400)

    def test_unlike_costs(self):
        for n in range(1, 25):
            for s in range(9):
                for seed in (n + s, 100 + 9 * n + s):
                    self.look(random_costs(seed, n), s)

    def test_costs_that_double(self):
        for n in (5, 8, 15, 16, 24):
            for s in range(9):
                rising = [2 ** k for k in range(n)]
                self.look(rising, s)
                self.look(rising[::-1], s)


class Least(Plans):
    def test_no_way_at_all_is_cheaper(self):
        for seed in range(200):
            n, s = 1 + seed % 6, seed % 5
            costs = random_costs(seed, n)
            found = least_works(costs, s)
            left, shown = left_plan(costs, s), shown_plan(costs, s)
            self.assertEqual(left and work(left, costs), found.get(frozenset({n})))
            come = min([sums for stand, sums in found.items() if n in stand], default=None)
            self.assertEqual(shown and work(shown, costs), come and 2 * come)


class ByHand(Plans):
    def test_one_stretch(self):
        for s in range(1, 9):
            self.assertEqual(left_plan([5], s), [("lay", 1)])
            self.assertEqual(shown_plan([5], s), [("lay", 1), SHOW, ("clear", 1)])

    def test_the_only_ones(self):
        self.assertEqual(left_plan([3, 5], 2), [("lay", 1), ("lay", 2), ("clear", 1)])
        self.assertEqual(shown_plan([3, 5], 2), [("lay", 1), ("lay", 2), SHOW, ("clear", 2), ("clear", 1)])
        three = [("lay", 1), ("lay", 2), ("clear", 1), ("lay", 3)]
        self.assertEqual(shown_plan([1, 10, 100], 2), three + [SHOW] + turned_plan(three))

    def test_none(self):
        self.assertIsNone(left_plan([5], 0))
        self.assertIsNone(shown_plan([5], 0))
        self.assertIsNone(left_plan([5, 5], 1))
        self.assertIsNone(shown_plan([5, 5], 1))
        self.assertIsNone(left_plan([5] * 3, 2))
        self.assertIsNone(shown_plan([5] * 4, 2))
        self.assertIsNone(left_plan([5] * 17, 5))
        self.assertIsNone(shown_plan([5] * 16, 4))

    def test_just_within_reach(self):
        for s in (1, 2, 3, 4, 5):
            plan = left_plan([1] * 2 ** (s - 1), s)
            self.assertEqual(checked(plan, 2 ** (s - 1), s), "left")
            self.assertEqual(most_marks(plan), s)
            self.assertEqual(sets_along(plan)[-1], 2 ** (2 ** (s - 1) - 1))
        for s in (1, 2, 3, 4):
            plan = shown_plan([1] * (2 ** s - 1), s)
            self.assertEqual(checked(plan, 2 ** s - 1, s), "shown")
            self.assertEqual(most_marks(plan), s)


class Handed(Plans):
    def test_what_is_handed_in_stays(self):
        for function in (left_plan, shown_plan):
            costs = [3, 1, 4, 1, 5]
            told = function(costs, 4)
            self.assertEqual(costs, [3, 1, 4, 1, 5])
            self.assertEqual(function(costs, 4), told)
            before = list(told)
            costs[0] = 10 ** 9
            self.assertEqual(told, before)

    def test_what_is_told_is_the_asker_s_own(self):
        for function in (left_plan, shown_plan):
            for costs in ([3, 1, 4, 1, 5], [3]):
                told = function(costs, 4)
                before = list(told)
                told.clear()
                self.assertEqual(function(costs, 4), before)


if __name__ == "__main__":
    unittest.main()

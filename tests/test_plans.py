import copy
import itertools
import random
import unittest

from nolitter.errors import BadPlan
from nolitter.plans import checked, most_marks, sets_along, turned_plan, work
from tests.samples import clear, lay, random_way

SHOW = ("show",)


def told(plan, n, s):
    """What is told of a plan: a word, or where it is refused."""
    try:
        return checked(plan, n, s)
    except BadPlan as error:
        return error.at


def told_by_the_words(plan, n, s):
    """The same, found anew: the set of marks that stand is a set of Python's, the input one of them."""
    stand, shows = {0}, 0
    for at, move in enumerate(plan):
        if move[0] == "show":
            let = n in stand and shows == 0
            shows += 1
        else:
            k = move[1]
            let = k in range(1, n + 1) and {k - 1} <= stand and (k in stand) == (move[0] == "clear")
            let = let and (move[0] == "clear" or len(stand) - 1 < s)
            stand = stand ^ {k}
        if not let:
            return at
    if (shows, stand) == (1, {0}):
        return "shown"
    return "left" if (shows, stand) == (0, {0, n}) else len(plan)


class LetBy(unittest.TestCase):
    def test_shown(self):
        self.assertEqual(checked(lay(1) + [SHOW] + clear(1), 1, 1), "shown")
        self.assertEqual(checked(lay(1, 2) + [SHOW] + clear(2, 1), 2, 2), "shown")
        self.assertEqual(checked(lay(1, 2) + clear(1) + [SHOW] + lay(1) + clear(2, 1), 2, 2), "shown")
        three = lay(1, 2) + clear(1) + lay(3)
        self.assertEqual(checked(three + [SHOW] + clear(3) + lay(1) + clear(2, 1), 3, 2), "shown")

    def test_left(self):
        self.assertEqual(checked(lay(1), 1, 1), "left")
        self.assertEqual(checked(lay(1, 2) + clear(1), 2, 2), "left")
        self.assertEqual(checked(lay(1, 2, 3) + clear(2, 1), 3, 3), "left")
        four = lay(1, 2) + clear(1) + lay(3, 4) + clear(3) + lay(1) + clear(2, 1)
        self.assertEqual(checked(four, 4, 3), "left")

    def test_more_places_than_are_needed(self):
        for s in range(1, 9):
            self.assertEqual(checked(lay(1), 1, s), "left")
            self.assertEqual(checked(lay(1) + [SHOW] + clear(1), 1, s), "shown")

    def test_moves_that_were_not_needed(self):
        idle = (lay(1) + clear(1)) * 5
        self.assertEqual(checked(idle + lay(1), 1, 1), "left")
        self.assertEqual(checked(idle + lay(1) + [SHOW] + clear(1) + idle, 1, 1), "shown")

    def test_many_stretches(self):
        up = lay(*range(1, 9))
        self.assertEqual(checked(up + [SHOW] + turned_plan(up), 8, 8), "shown")
        self.assertEqual(checked(up + clear(*range(7, 0, -1)), 8, 8), "left")
        up = lay(*range(1, 25))
        self.assertEqual(checked(up + [SHOW] + turned_plan(up), 24, 24), "shown")

    def test_a_thousand_moves(self):
        plan = (lay(1, 2) + clear(2, 1)) * 250
        self.assertEqual(checked(plan + lay(1, 2) + clear(1), 2, 2), "left")
        self.assertEqual(told(plan, 2, 2), 1000)


class Refused(unittest.TestCase):
    def look(self, ahead, move, n, s):
        """The move behind these is refused, with its own number, whatever stands behind it."""
        for behind in ([], [SHOW], lay(1), lay(99), [move]):
            self.assertEqual(told(ahead + [move] + behind, n, s), len(ahead), (ahead, move, behind))

    def test_of_no_such_mark(self):
        for ahead in ([], lay(1), lay(1, 2, 3)):
            for kind in ("lay", "clear"):
                for k in (0, -1, -5, 4, 5, 25, 10 ** 40, -10 ** 40):
                    self.look(ahead, (kind, k), 3, 8)

    def test_a_lay_of_a_mark_that_stands(self):
        self.look(lay(1), ("lay", 1), 2, 8)
        self.look(lay(1, 2), ("lay", 2), 2, 8)
        self.look(lay(1, 2, 3) + clear(2), ("lay", 1), 3, 8)

    def test_a_lay_without_the_one_ahead(self):
        self.look([], ("lay", 2), 3, 8)
        self.look(lay(1), ("lay", 3), 3, 8)
        self.look(lay(1, 2) + clear(1), ("lay", 4), 4, 8)
        self.look(lay(1, 2, 3) + clear(2), ("lay", 4), 3, 8)

    def test_a_lay_with_no_place_left(self):
        for n in (1, 2, 8, 24):
            self.look([], ("lay", 1), n, 0)
        self.look(lay(1), ("lay", 2), 2, 1)
        self.look(lay(1, 2), ("lay", 3), 3, 2)
        self.look(lay(1, 2) + clear(1) + lay(3), ("lay", 4), 4, 2)
        self.look(lay(1, 2) + clear(1) + lay(3), ("lay", 1), 4, 2)
        for s in range(9):
            self.look(lay(*range(1, s + 1)), ("lay", s + 1), 24, s)
            self.assertEqual(told(lay(*range(1, s + 2)), 24, s + 1), s + 1)

    def test_a_clear_of_a_mark_that_doesn_t_stand(self):
        self.look([], ("clear", 1), 1, 8)
        self.look(lay(1), ("clear", 2), 2, 8)
        self.look(lay(1) + clear(1), ("clear", 1), 2, 8)

    def test_a_clear_without_the_one_ahead(self):
        self.look(lay(1, 2) + clear(1), ("clear", 2), 2, 8)
        self.look(lay(1, 2, 3) + clear(2), ("clear", 3), 3, 8)

    def test_a_show_without_the_last(self):
        self.look([], SHOW, 1, 8)
        self.look(lay(1), SHOW, 2, 8)
        self.look(lay(1, 2) + clear(2), SHOW, 2, 8)

    def test_a_second_show(self):
        self.look(lay(1) + [SHOW], SHOW, 1, 8)
        self.look(lay(1) + [SHOW] + clear(1) + lay(1), SHOW, 1, 8)

    def test_at_the_end(self):
        for plan, n in (([], 1), ([], 24), (lay(1), 2), (lay(1, 2), 2), (lay(1) + clear(1), 1),
                        (lay(1) + [SHOW], 1), (lay(1, 2) + [SHOW] + clear(2), 2),
                        (lay(1, 2) + [SHOW] + clear(1), 2), (lay(1, 2, 3) + clear(2), 3),
                        (lay(1) + [SHOW] + clear(1) + lay(1), 1)):
            self.assertEqual(told(plan, n, 8), len(plan), plan)

    def test_no_moves_for_each_s(self):
        for s in range(9):
            for n in (1, 2, 8, 24):
                self.assertEqual(told([], n, s), 0)


class ByTheWords(unittest.TestCase):
    def test_all_short_plans(self):
        seen = {}
        for n in (1, 2, 3):
            moves = [(kind, k) for kind in ("lay", "clear") for k in range(1, n + 1)] + [SHOW]
            for many in range(8 - n):
                for plan in itertools.product(moves, repeat=many):
                    for s in range(4):
                        expected = told_by_the_words(plan, n, s)
                        self.assertEqual(told(list(plan), n, s), expected, (plan, n, s))
                        seen[expected] = seen.get(expected, 0) + 1
        self.assertGreater(min(seen["left"], seen["shown"], seen[4]), 10, seen)

    def test_plans_that_were_changed(self):
        seen = {"left": 0, "shown": 0, "refused": 0, "refused at the end": 0}
        for seed in range(3000):
            chance = random.Random(seed)
            n, s = chance.randrange(1, 6), chance.randrange(1, 9)
            way = random_way(seed, n, s, chance.randrange(12))
            plan = way + [SHOW] + turned_plan(way) if chance.random() < 0.7 else way
            if chance.random() < 0.5:
                plan.insert(chance.randrange(len(plan) + 1), (chance.choice(("lay", "clear")), chance.randrange(n + 2)))
            if plan and chance.random() < 0.4:
                plan.pop(chance.randrange(len(plan)))
            s = chance.choice((s, s, s - 1, most_marks(way)))
            expected = told_by_the_words(plan, n, s)
            self.assertEqual(told(plan, n, s), expected)
            if expected not in seen:
                expected = "refused at the end" if expected == len(plan) else "refused"
            seen[expected] += 1
        self.assertGreater(min(seen.values()), 20, seen)


class Told(unittest.TestCase):
    def test_sets_along(self):
        self.assertEqual(sets_along([]), [0])
        self.assertEqual(sets_along(lay(1)), [0, 1])
        self.assertEqual(sets_along(lay(1, 2, 3) + clear(2, 1)), [0, 1, 3, 7, 5, 4])
        self.assertEqual(sets_along(lay(1, 2) + [SHOW] + clear(2, 1)), [0, 1, 3, 3, 1, 0])
        self.assertEqual(sets_along([SHOW, SHOW]), [0, 0, 0])
        self.assertEqual(sets_along(lay(24, 3, 1) + clear(24)), [0, 2 ** 23, 2 ** 23 + 4, 2 ** 23 + 5, 5])
        self.assertEqual(sets_along(lay(*range(1, 25)))[-1], 2 ** 24 - 1)

    def test_most_marks(self):
        self.assertEqual(most_marks([]), 0)
        self.assertEqual(most_marks([SHOW]), 0)
        self.assertEqual(most_marks(lay(24)), 1)
        self.assertEqual(most_marks(lay(1, 2) + clear(1) + lay(3) + clear(2)), 2)
        self.assertEqual(most_marks(lay(1, 2, 3) + clear(2, 1)), 3)
        self.assertEqual(most_marks(lay(1, 2) + [SHOW] + clear(2, 1)), 2)
        self.assertEqual(most_marks(lay(*range(1, 25))), 24)

    def test_work(self):
        self.assertEqual(work([], []), 0)
        self.assertEqual(work([], [5]), 0)
        self.assertEqual(work([SHOW], [5]), 0)
        self.assertEqual(work(lay(1), [5]), 5)
        self.assertEqual(work(lay(1, 2, 3) + clear(2, 1), [1, 10, 100]), 122)
        self.assertEqual(work(lay(1, 2) + [SHOW] + clear(2, 1), [7, 10 ** 9]), 14 + 2 * 10 ** 9)
        self.assertEqual(work(lay(*range(1, 25)), [10 ** 9] * 24), 24 * 10 ** 9)

    def test_work_with_costs_beyond_the_stretches_there_are(self):
        self.assertEqual(work(lay(1, 2) + clear(1), [3, 4, 5]), 10)
        self.assertEqual(work(lay(1, 2) + clear(1), list(range(3, 30))), 10)
        self.assertEqual(work([SHOW] + lay(2), [3, 4, 5]), 4)

    def test_work_of_what_was_turned_about(self):
        plan = lay(1, 2) + [SHOW] + clear(1)
        self.assertEqual(work(turned_plan(plan), [3, 5]), 11)
        self.assertEqual(work(clear(2, 1), [3, 5]), 8)

    def test_turned_plan(self):
        self.assertEqual(turned_plan([]), [])
        self.assertEqual(turned_plan([SHOW]), [SHOW])
        self.assertEqual(turned_plan(lay(1, 2) + clear(1)), lay(1) + clear(2, 1))
        self.assertEqual(turned_plan(lay(1, 2) + [SHOW] + clear(1)), lay(1) + [SHOW] + clear(2, 1))
        self.assertEqual(turned_plan(clear(3, 24)), lay(24, 3))

    def test_many_ways(self):
        costs = [3, 1, 10, 7, 10 ** 9, 2, 5, 8]
        for seed in range(300):
            n, s = 1 + seed % 7, 1 + seed % 5
            way = random_way(seed, n, s, seed % 40)
            stand, sets, sums = set(), [0], 0
            for kind, k in way:
                stand ^= {k}
                sets.append(sum(2 ** (mark - 1) for mark in stand))
                sums += costs[k - 1]
            self.assertEqual(sets_along(way), sets)
            self.assertEqual(most_marks(way), max(bin(marks).count("1") for marks in sets))
            self.assertEqual(work(way, costs), sums)
            back = turned_plan(way)
            self.assertEqual(turned_plan(back), way)
            self.assertEqual(work(back, costs), sums)
            self.assertEqual(sets_along(way + back), sets + sets[-2::-1])
            if sets[-1] >= 2 ** (n - 1):
                self.assertEqual(checked(way + [SHOW] + back, n, s), "shown")
                self.assertEqual(checked(turned_plan(way + [SHOW] + back), n, s), "shown")


class Handed(unittest.TestCase):
    PLAN = lay(1, 2) + [SHOW] + clear(2, 1)
    COSTS = [4, 5]

    def test_what_is_handed_in_stays(self):
        plan, costs = copy.deepcopy(self.PLAN), list(self.COSTS)
        for again in range(2):
            self.assertEqual(checked(plan, 2, 2), "shown")
            self.assertEqual(told(plan, 2, 1), 1)
            self.assertEqual(sets_along(plan), [0, 1, 3, 3, 1, 0])
            self.assertEqual(most_marks(plan), 2)
            self.assertEqual(work(plan, costs), 18)
            self.assertEqual(turned_plan(plan), self.PLAN)
            self.assertEqual((plan, costs), (self.PLAN, self.COSTS))

    def test_what_is_told_is_the_asker_s_own(self):
        plan = copy.deepcopy(self.PLAN)
        for function in (sets_along, turned_plan):
            before = function(plan)
            self.assertIs(type(before), list)
            function(plan).append(7)
            self.assertEqual(function(plan), before)
            self.assertEqual(plan, self.PLAN)
        turned = turned_plan(plan)
        plan.clear()
        self.assertEqual(turned, self.PLAN)

    def test_kinds(self):
        for number in (most_marks(self.PLAN), most_marks([]), work(self.PLAN, self.COSTS), work([], [])):
            self.assertIs(type(number), int)
        self.assertTrue(all(type(marks) is int for marks in sets_along(self.PLAN)))
        self.assertTrue(all(type(move) is tuple for move in turned_plan(self.PLAN)))


if __name__ == "__main__":
    unittest.main()

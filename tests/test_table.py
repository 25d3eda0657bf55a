import random
import unittest

from nolitter.table import alone, alone_reach, reach, reached
from tests.samples import least_works, random_costs


def by_the_words(costs, s, known):
    """What alone and reached are by the table's own words, each part looked up anew."""
    key = (tuple(costs), s)
    if key not in known:
        known[key] = one_stretch(costs, s) if len(costs) == 1 else parted(costs, s, known)
    return known[key]


def one_stretch(costs, s):
    return (costs[0], costs[0]) if s >= 1 else (None, None)


def parted(costs, s, known):
    left, come = [], []
    for m in range(1, len(costs)) if s > 0 else ():
        first = by_the_words(costs[:m], s, known)[0]
        others = by_the_words(costs[m:], s - 1, known)
        again = by_the_words(costs[:m], s - 1, known)[0]
        if None not in (first, others[0], again):
            left.append(first + others[0] + again)
        if None not in (first, others[1]):
            come.append(first + others[1])
    return min(left, default=None), min(come, default=None)


class ByHand(unittest.TestCase):
    def look(self, function, costs, expected):
        """What is told for s from 0 on."""
        self.assertEqual([function(costs, s) for s in range(len(expected))], expected)

    def test_one_stretch(self):
        for cost in (1, 7, 10 ** 9):
            self.look(alone, [cost], [None] + [cost] * 8)
            self.look(reached, [cost], [None] + [cost] * 8)

    def test_two_stretches(self):
        self.look(alone, [3, 5], [None, None] + [11] * 7)
        self.look(alone, [5, 3], [None, None] + [13] * 7)
        self.look(reached, [3, 5], [None, None] + [8] * 7)

    def test_three_stretches(self):
        self.look(alone, [1, 10, 100], [None, None, None] + [122] * 6)
        self.look(reached, [1, 10, 100], [None, None, 112] + [111] * 6)

    def test_four_stretches(self):
        self.look(alone, [1, 10, 100, 1000], [None, None, None, 1224] + [1222] * 5)
        self.look(alone, [1000, 100, 10, 1], [None, None, None, 4221] + [2221] * 5)
        # With three places either the first or the second stretch is laid and cleared once more.
        self.look(reached, [1, 10, 100, 1000], [None, None, None, 1112] + [1111] * 5)
        self.look(reached, [1000, 100, 10, 1], [None, None, None, 1211] + [1111] * 5)

    def test_five_stretches(self):
        # The first part may have one to four stretches but must leave at most four, alone.
        self.look(alone, [1] * 5, [None, None, None, None, 11] + [9] * 4)
        self.look(reached, [1] * 5, [None, None, None, 7, 6] + [5] * 4)

    def test_seven_and_eight_stretches(self):
        self.look(reached, [64, 32, 16, 8, 4, 2, 1], [None, None, None, 371])
        self.look(alone, [1] * 8, [None, None, None, None, 25])

    def test_great_costs(self):
        self.look(alone, [10 ** 9] * 4, [None, None, None, 9 * 10 ** 9, 7 * 10 ** 9])


class ByTheWords(unittest.TestCase):
    def test_up_to_24_stretches(self):
        for seed in range(24):
            costs, known = random_costs(seed, 24), {}
            for n in (1, 2, 3, 5, 8, 12, 16, 17, 23, 24)[seed % 2::2]:
                for s in range(9):
                    expected = by_the_words(costs[:n], s, known)
                    self.assertEqual((alone(costs[:n], s), reached(costs[:n], s)), expected, (costs[:n], s))

    def test_by_looking_at_all_ways(self):
        for seed in range(240):
            n, s = 1 + seed % 6, random.Random(seed).randrange(5)
            costs = random_costs(seed, n)
            found = least_works(costs, s)
            self.assertEqual(alone(costs, s), found.get(frozenset({n})), (costs, s))
            come = [sums for stand, sums in found.items() if n in stand]
            self.assertEqual(reached(costs, s), min(come, default=None), (costs, s))

    def test_all_ways_for_each_few_stretches_and_places(self):
        for n in range(1, 6):
            for s in range(4):
                for costs in ([1] * n, list(range(1, n + 1)), list(range(n, 0, -1)), [1, 10 ** 9, 1, 10 ** 9, 1][:n]):
                    found = least_works(costs, s)
                    self.assertEqual(alone(costs, s), found.get(frozenset({n})))
                    come = [sums for stand, sums in found.items() if n in stand]
                    self.assertEqual(reached(costs, s), min(come, default=None))


class Reach(unittest.TestCase):
    def test_reach(self):
        self.assertEqual([reach(s) for s in range(9)], [0, 1, 3, 7, 15, 31, 63, 127, 255])

    def test_alone_reach(self):
        self.assertEqual([alone_reach(s) for s in range(9)], [0, 1, 2, 4, 8, 16, 32, 64, 128])

    def test_none_just_where_it_can_t_stand(self):
        for s in range(9):
            for n in range(1, 25):
                for costs in ([1] * n, random_costs(n, n)):
                    self.assertEqual(alone(costs, s) is not None, s >= 1 and n <= 2 ** (s - 1), (n, s))
                    self.assertEqual(reached(costs, s) is not None, n <= 2 ** s - 1, (n, s))

    def test_by_all_ways(self):
        for s in range(4):
            for n in range(1, 6):
                found = least_works([1] * n, s)
                self.assertEqual(frozenset({n}) in found, n <= alone_reach(s))
                self.assertEqual(any(n in stand for stand in found), n <= reach(s))


class Handed(unittest.TestCase):
    def test_what_is_handed_in_stays(self):
        costs = [3, 1, 4, 1, 5]
        for again in range(2):
            self.assertEqual((alone(costs, 5), reached(costs, 3)), (23, by_the_words(costs, 3, {})[1]))
            self.assertEqual(costs, [3, 1, 4, 1, 5])

    def test_what_is_changed_behind_the_call_changes_nothing(self):
        costs = [3, 5]
        self.assertEqual(alone(costs, 2), 11)
        costs[0] = 4
        self.assertEqual((alone(costs, 2), reached(costs, 2)), (13, 9))
        costs.append(1)
        self.assertEqual((alone(costs, 2), reached(costs, 2)), (None, 14))

    def test_kinds(self):
        for number in (alone([1, 2], 2), reached([1, 2], 2), reach(0), reach(8), alone_reach(0), alone_reach(8)):
            self.assertIs(type(number), int)


if __name__ == "__main__":
    unittest.main()

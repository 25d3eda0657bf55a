import copy
import random
import unittest

from nolitter.plans import most_marks, sets_along, turned_plan, work
from nolitter.thinner import thinned
from tests.samples import clear, lay, moves_let, random_way


def stands_along(way):
    """The marks that stand at first and behind each move, as sets of Python's; the rules are looked at, too."""
    stands = [frozenset()]
    for move in way:
        assert move in moves_let(stands[-1], 24, 24), (way, move)
        stands.append(stands[-1] ^ {move[1]})
    return stands


def thinned_by_the_words(way):
    """The thinned way, and how often moves were left out, by going through all moments for each move."""
    rounds = 0
    while True:
        stands = stands_along(way)
        left = []
        for at, move in enumerate(way):
            if all(any(mark >= move[1] for mark in stand) for stand in stands[at + 1:]):
                left.append(move)
        if left == way:
            return way, rounds
        way, rounds = left, rounds + 1


class ByHand(unittest.TestCase):
    def test_a_way_back_to_none(self):
        self.assertEqual(thinned(lay(1) + clear(1)), [])
        self.assertEqual(thinned(lay(1, 2, 3) + clear(3, 2, 1)), [])
        self.assertEqual(thinned(lay(1, 2) + clear(1) + lay(3) + clear(3) + lay(1) + clear(2, 1)), [])
        self.assertEqual(thinned([]), [])

    def test_nothing_is_to_be_left_out(self):
        for way in (lay(1), lay(1, 2), lay(1, 2) + clear(1), lay(1, 2, 3) + clear(2, 1),
                    lay(1, 2) + clear(1) + lay(3, 4) + clear(3) + lay(1) + clear(2, 1), lay(*range(1, 25))):
            self.assertEqual(thinned(way), way)

    def test_what_came_to_nothing(self):
        self.assertEqual(thinned(lay(1) + clear(1) + lay(1)), lay(1))
        self.assertEqual(thinned(lay(1, 2) + clear(2)), lay(1))
        self.assertEqual(thinned(lay(1, 2) + clear(2) + lay(2)), lay(1, 2))
        self.assertEqual(thinned(lay(1, 2) + clear(2, 1) + lay(1, 2) + clear(1)), lay(1, 2) + clear(1))
        self.assertEqual(thinned(lay(1, 2, 3) + clear(3) + lay(3) + clear(2, 1)), lay(1, 2, 3) + clear(2, 1))
        self.assertEqual(thinned(lay(1, 2) + clear(1) + lay(3) + clear(3)), lay(1, 2) + clear(1))

    def test_a_mark_cleared_and_laid_below_one_that_stands_stays(self):
        way = lay(1, 2) + clear(1) + lay(1) + clear(1)
        self.assertEqual(thinned(way), way)

    def test_the_moment_right_behind_the_move(self):
        self.assertEqual(thinned(lay(1, 2) + clear(2) + lay(2) + clear(1)), lay(1, 2) + clear(1))

    def test_leaving_out_makes_more_to_be_left_out(self):
        # Without mark 3's moves, there is a moment without marks from 2 on.
        way = lay(1, 2, 3) + clear(2) + lay(2) + clear(3)
        self.assertEqual(thinned_by_the_words(way), (lay(1, 2), 2))
        self.assertEqual(thinned(way), lay(1, 2))
        way = lay(1, 2, 3, 4) + clear(3, 2) + lay(2, 3) + clear(4)
        self.assertEqual(thinned(way), lay(1, 2, 3))
        way = lay(1, 2, 3) + clear(2) + lay(4) + clear(4) + lay(2) + clear(3)
        self.assertEqual(thinned(way), lay(1, 2))

    def test_three_rounds(self):
        # Without mark 3's moves there is a moment without marks from 2 on; without mark 2's first ones, one without any.
        way = lay(1, 2, 3) + clear(1) + lay(1) + clear(2) + lay(2) + clear(3)
        self.assertEqual(thinned_by_the_words(way), (lay(1, 2), 3))
        self.assertEqual(thinned(way), lay(1, 2))


class ManyWays(unittest.TestCase):
    def each(self):
        for seed in range(1200):
            chance = random.Random(seed)
            n, s = chance.randrange(1, 9), chance.randrange(1, 9)
            yield random_way(seed, n, s, chance.randrange(50))

    def look(self, way):
        thin = thinned(way)
        before, behind = stands_along(way), stands_along(thin)
        self.assertEqual(behind[-1], before[-1])
        self.assertLessEqual(max(map(len, behind)), max(map(len, before)))
        self.assertLessEqual(most_marks(thin), most_marks(way))
        for costs in ([1] * 24, [10 ** 9, 1] * 12, list(range(24, 0, -1))):
            self.assertLessEqual(work(thin, costs), work(way, costs))
        highest = [max(stand, default=0) for stand in behind]
        self.assertEqual(highest, sorted(highest))
        self.assertEqual(thinned(thin), thin)
        return thin

    def test_what_is_promised_of_it(self):
        shorter, stayed = 0, 0
        for way in self.each():
            thin = self.look(way)
            shorter += len(thin) < len(way)
            stayed += len(thin) == len(way)
        self.assertGreater(min(shorter, stayed), 50)

    def test_by_the_words(self):
        rounds = {}
        for way in self.each():
            thin, many = thinned_by_the_words(way)
            self.assertEqual(thinned(way), thin)
            rounds[many] = rounds.get(many, 0) + 1
        self.assertGreater(min(rounds[0], rounds[1], rounds[2]), 10, rounds)

    def test_ways_back_to_none(self):
        for way in self.each():
            self.assertEqual(thinned(way + turned_plan(way)), [])

    def test_a_thousand_moves(self):
        for seed, n, s in ((1, 24, 8), (2, 24, 24), (3, 8, 8), (4, 3, 2)):
            way = random_way(seed, n, s, 1000)
            self.assertEqual(len(way), 1000)
            self.look(way)
        self.assertEqual(thinned((lay(1) + clear(1)) * 500), [])
        self.assertEqual(thinned(lay(1, 2) + (clear(1) + lay(1)) * 499), lay(1, 2) + (clear(1) + lay(1)) * 499)


class Handed(unittest.TestCase):
    def test_what_is_handed_in_stays(self):
        for way in (lay(1, 2) + clear(2), lay(1, 2), []):
            before = copy.deepcopy(way)
            told = thinned(way)
            self.assertEqual(way, before)
            self.assertEqual(thinned(way), told)

    def test_what_is_told_is_the_asker_s_own(self):
        for way in (lay(1, 2) + clear(2), lay(1, 2), []):
            before, told = copy.deepcopy(way), thinned(way)
            self.assertIs(type(told), list)
            self.assertTrue(all(type(move) is tuple for move in told))
            kept = list(told)
            told.append(("lay", 9))
            self.assertEqual(way, before)
            self.assertEqual(thinned(way), kept)
            told = thinned(way)
            way.append(("lay", 9))
            self.assertEqual(told, kept)

    def test_sets_lead_to_the_same(self):
        way = lay(1, 2, 3) + clear(2) + lay(2) + clear(3)
        self.assertEqual(sets_along(thinned(way))[-1], sets_along(way)[-1])


if __name__ == "__main__":
    unittest.main()

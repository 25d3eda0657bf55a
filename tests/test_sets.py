import itertools
import unittest

from nolitter.errors import BadPlan
from nolitter.plans import checked, sets_along
from nolitter.sets import come_to, moves_from
from tests.samples import clear, lay, least_works, moves_let, number_of


def all_sets(n, most):
    """Each set of at most so many of n marks."""
    for many in range(min(n, most) + 1):
        yield from (set(stand) for stand in itertools.combinations(range(1, n + 1), many))


class MovesFrom(unittest.TestCase):
    def test_all_sets_of_up_to_five_stretches(self):
        for n in range(1, 6):
            for s in range(6):
                for stand in all_sets(n, s):
                    self.assertEqual(moves_from(number_of(stand), n, s), moves_let(stand, n, s), (stand, n, s))

    def test_all_sets_of_eight_stretches(self):
        for s in range(9):
            for stand in all_sets(8, s):
                self.assertEqual(moves_from(number_of(stand), 8, s), moves_let(stand, 8, s), (stand, s))

    def test_by_hand(self):
        for marks, n, s, told in (
                (0b1, 3, 3, clear(1) + lay(2)),
                (0b1, 3, 1, clear(1)),
                (0b1, 1, 5, clear(1)),
                (0b10, 3, 3, lay(1, 3)),
                (0b10, 2, 3, lay(1)),
                (0b10, 3, 1, []),
                (0b11, 3, 3, clear(1, 2) + lay(3)),
                (0b11, 3, 2, clear(1, 2)),
                (0b100, 3, 2, lay(1)),
                (0b101, 3, 3, clear(1) + lay(2)),
                (0b110, 3, 2, clear(3)),
                (0b110, 3, 3, lay(1) + clear(3)),
                (0b111, 3, 3, clear(1, 2, 3)),
                (0b11111, 6, 6, clear(1, 2, 3, 4, 5) + lay(6)),
                (0b10000000, 8, 8, lay(1)),
                (0b10000000, 24, 8, lay(1, 9)),
                (0b11111111, 24, 8, clear(1, 2, 3, 4, 5, 6, 7, 8))):
            self.assertEqual(moves_from(marks, n, s), told, (marks, n, s))

    def test_no_marks(self):
        for n in range(1, 25):
            for s in range(1, 9):
                self.assertEqual(moves_from(0, n, s), lay(1))

    def test_no_place(self):
        for n in range(1, 25):
            self.assertEqual(moves_from(0, n, 0), [])

    def test_a_plan_may_go_on_by_just_these(self):
        n, s = 4, 3
        ways = {0: []}
        for again in range(16):
            for marks in list(ways):
                for move in moves_from(marks, n, s):
                    way = ways[marks] + [move]
                    ways.setdefault(sets_along(way)[-1], way)
        for marks, way in ways.items():
            for move in [(word, k) for word in ("lay", "clear") for k in range(-1, n + 3)]:
                self.assertEqual(self.refused_at(way + [move], n, s) == len(way), move not in moves_from(marks, n, s))

    def refused_at(self, plan, n, s):
        try:
            checked(plan, n, s)
        except BadPlan as refusal:
            return refusal.at
        return None

    def test_what_is_told_is_the_asker_s_own(self):
        moves_from(1, 3, 3).clear()
        self.assertEqual(moves_from(1, 3, 3), [("clear", 1), ("lay", 2)])


class ComeTo(unittest.TestCase):
    def test_by_hand(self):
        for n, s, told in (
                (1, 1, [0, 1]),
                (1, 8, [0, 1]),
                (2, 1, [0, 1]),
                (2, 2, [0, 1, 2, 3]),
                (2, 3, [0, 1, 2, 3]),
                (3, 1, [0, 1]),
                # 5, marks 1 and 3, would need mark 2 cleared beside them both.
                (3, 2, [0, 1, 2, 3, 6]),
                (3, 3, [0, 1, 2, 3, 4, 5, 6, 7]),
                (4, 2, [0, 1, 2, 3, 6]),
                # Mark 4 comes to stand alone, and so each three marks can; all four can't.
                (4, 3, [0, 1, 2, 3, 4, 5, 6, 7, 8, 9, 10, 11, 12, 13, 14])):
            self.assertEqual(come_to(n, s), told, (n, s))

    def test_no_place(self):
        for n in range(1, 9):
            self.assertEqual(come_to(n, 0), [0])

    def test_one_place(self):
        for n in range(1, 9):
            self.assertEqual(come_to(n, 1), [0, 1])

    def test_eight_stretches_and_eight_places(self):
        self.assertEqual(come_to(8, 8), list(range(256)))

    def test_as_many_places_as_stretches(self):
        for n in range(1, 9):
            self.assertEqual(come_to(n, n), list(range(2 ** n)))

    def test_by_looking_at_all_ways(self):
        for n in range(1, 9):
            for s in range(9):
                told = come_to(n, s)
                self.assertEqual(told, sorted(number_of(stand) for stand in least_works([1] * n, s)), (n, s))

    def test_how_high_marks_can_stand(self):
        for s in range(5):
            told = come_to(8, s)
            for k in range(1, 9):
                self.assertEqual(any(marks >> (k - 1) & 1 for marks in told), k <= 2 ** s - 1)
                self.assertEqual(2 ** (k - 1) in told, s > 0 and k <= 2 ** (s - 1))

    def test_more_stretches_than_can_be_come_to_change_nothing(self):
        for n in range(3, 9):
            self.assertEqual(come_to(n, 2), [0, 1, 2, 3, 6])

    def test_what_is_told_is_the_asker_s_own(self):
        told = come_to(2, 2)
        told.clear()
        self.assertEqual(come_to(2, 2), [0, 1, 2, 3])
        self.assertTrue(all(type(marks) is int for marks in come_to(5, 3)))


if __name__ == "__main__":
    unittest.main()

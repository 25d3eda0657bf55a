import copy
import unittest

from nolitter.cuts import costs, even, stretches
from nolitter.errors import BadCuts
from nolitter.pieces import pieces
from nolitter.rides import run_forth
from nolitter.turned import turned
from nolitter.weave import weave
from tests.samples import choose, good_program, random_state, times

PLUS = ("op", "a", "+", "a", "b")
IS = ("is", "b", "a")
EITHER = choose("a", [("is", "a", 0)], [("is", "b", 0)])
PROGRAM = (8, ("a", "b"), (PLUS, times(2, IS, times(2, EITHER)), PLUS))
EMPTY = (8, ("a", "b"), ())
WRONG = ([], [0], [-1], [7], [9], [0, 8], [8, 0], [4, 0, 4], [-1, 9], [9, -1], [1] * 7, [1] * 9, [4, 5], [8, 8],
         [8, 1], [1, 8], [10 ** 9], [10 ** 9, 8 - 10 ** 9], [0] * 8)


class Even(unittest.TestCase):
    def test_by_hand(self):
        for many, n, told in ((1, 1, [1]), (7, 1, [7]), (7, 2, [4, 3]), (7, 3, [3, 2, 2]), (8, 3, [3, 3, 2]),
                              (9, 3, [3, 3, 3]), (7, 7, [1] * 7), (8, 7, [2] + [1] * 6), (200, 24, [9] * 8 + [8] * 16),
                              (200, 200, [1] * 200)):
            self.assertEqual(even(many, n), told, (many, n))

    def test_all(self):
        for many in range(1, 201):
            for n in range(1, many + 1):
                told = even(many, n)
                self.assertEqual((len(told), sum(told)), (n, many))
                self.assertLessEqual(told[0] - told[-1], 1)
                self.assertEqual(told, sorted(told, reverse=True))
                self.assertGreaterEqual(told[-1], 1)

    def test_refused(self):
        for many, n in ((0, 0), (0, 1), (0, -1), (0, 24), (1, 0), (1, 2), (7, 0), (7, -1), (7, -7), (7, 8), (7, 10 ** 9),
                        (7, -10 ** 9), (200, 201), (200, 0)):
            with self.assertRaises(BadCuts, msg=(many, n)):
                even(many, n)

    def test_what_is_told_is_the_asker_s_own(self):
        even(7, 2).append(1)
        self.assertEqual(even(7, 2), [4, 3])
        self.assertTrue(all(type(size) is int for size in even(7, 2)))


class Stretches(unittest.TestCase):
    ALL = [PLUS, IS, EITHER, EITHER, IS, EITHER, EITHER, PLUS]

    def test_by_hand(self):
        self.assertEqual(stretches(PROGRAM, [8]), [self.ALL])
        self.assertEqual(stretches(PROGRAM, [1] * 8), [[piece] for piece in self.ALL])
        self.assertEqual(stretches(PROGRAM, [1, 7]), [self.ALL[:1], self.ALL[1:]])
        self.assertEqual(stretches(PROGRAM, [7, 1]), [self.ALL[:7], self.ALL[7:]])
        self.assertEqual(stretches(PROGRAM, [2, 3, 3]), [self.ALL[:2], self.ALL[2:5], self.ALL[5:]])

    def test_times_within_a_choose_are_no_cut(self):
        program = (8, ("a", "b"), (choose("a", [times(3, PLUS)]), times(0, PLUS), IS))
        self.assertEqual(stretches(program, [1, 1]), [[choose("a", [PLUS] * 3)], [IS]])

    def test_refused(self):
        for cuts in WRONG:
            with self.assertRaises(BadCuts, msg=cuts):
                stretches(PROGRAM, cuts)

    def test_no_pieces_no_cuts(self):
        for program in (EMPTY, (8, ("a",), (times(0, ("is", "a", 1)), times(5, times(3))))):
            for cuts in ([], [0], [1], [-1], [0, 0], [1, -1], [2]):
                for asked in (stretches, costs):
                    with self.assertRaises(BadCuts, msg=cuts):
                        asked(program, cuts)

    def test_all_cuttings_of_many_programs(self):
        looked = 0
        for seed in range(120):
            program = good_program(seed)
            some = pieces(program)
            for n in range(1, min(len(some), 24) + 1):
                cuts = even(len(some), n)[::-1]
                told = stretches(program, cuts)
                self.assertEqual([len(stretch) for stretch in told], cuts)
                self.assertEqual(sum(told, []), some)
                looked += 1
        self.assertGreater(looked, 400)

    def test_what_is_handed_in_and_told(self):
        cuts, before = [2, 3, 3], copy.deepcopy(PROGRAM)
        told = stretches(PROGRAM, cuts)
        self.assertEqual((cuts, PROGRAM), ([2, 3, 3], before))
        self.assertTrue(type(told) is list and all(type(stretch) is list for stretch in told))
        told[0].clear()
        told.pop()
        self.assertEqual(stretches(PROGRAM, cuts), [self.ALL[:2], self.ALL[2:5], self.ALL[5:]])
        told = stretches(PROGRAM, cuts)
        cuts[0] = 1
        self.assertEqual([len(stretch) for stretch in told], [2, 3, 3])


class Costs(unittest.TestCase):
    def test_by_hand(self):
        # A sum of boxes takes four rows, forth and back, and two more rows carry two boxes over; a box that becomes
        # another one takes none. The choose takes a row for each number, two for what is asked, and five steps for the
        # way that is taken and the one that is gone past.
        self.assertEqual(costs(PROGRAM, [1] * 8), [10, 2, 20, 20, 2, 20, 20, 10])
        self.assertEqual(costs(PROGRAM, [8]), [2 * (4 + 9 + 9 + 9 + 9 + 4) + 2])
        self.assertEqual(costs(PROGRAM, [2, 1, 5]), [10, 20, 2 * (9 + 9 + 9 + 4) + 2])

    def test_each_box_costs_one_more(self):
        for many in range(1, 7):
            boxes = ("a", "b", "c", "d", "e", "f")[:many]
            self.assertEqual(costs((8, boxes, (("is", "a", "a"),)), [1]), [many])
            self.assertEqual(costs((8, boxes, (("is", "a", 3),)), [1]), [many + 2])

    def test_refused(self):
        for cuts in WRONG:
            with self.assertRaises(BadCuts, msg=cuts):
                costs(PROGRAM, cuts)

    def test_one_for_each_stretch_by_its_pieces_alone(self):
        known = {}
        for seed in range(60):
            program = good_program(seed)
            many = len(pieces(program))
            for n in (1, 2, 3, many):
                if 1 <= n <= many <= 24:
                    cuts = even(many, n)
                    told = costs(program, cuts)
                    self.assertEqual(len(told), n)
                    for stretch, cost in zip(stretches(program, cuts), told):
                        key = repr((program[:2], stretch))
                        self.assertEqual(known.setdefault(key, cost), cost)
                        self.assertEqual(costs((program[0], program[1], tuple(stretch)), [len(stretch)]), [cost])

    def test_woven_forth_carried_over_and_woven_back(self):
        for seed in range(60):
            program = good_program(seed, 3, 2)
            many, boxes = len(pieces(program)), len(program[1])
            if many == 0:
                continue
            cuts = even(many, min(3, many))
            for stretch, cost in zip(stretches(program, cuts), costs(program, cuts)):
                rows, places, fresh, steps = weave(stretch, program[1], program[0], list(range(boxes)), boxes)
                state = random_state(seed, program) + [0] * (fresh - boxes)
                forth = run_forth((fresh, rows), state, 10 ** 6)
                back = run_forth(turned((fresh, rows)), forth[2], 10 ** 6)
                self.assertEqual(cost, forth[3] + boxes + back[3])

    def test_boxes_that_come_to_share_a_place_ahead_change_no_cost(self):
        # Behind the first piece both boxes hold the same; the second's cost is still that of unlike places.
        program = (8, ("a", "b"), (IS, choose("a", [("is", "a", "b")])))
        self.assertEqual(costs(program, [1, 1])[1], costs((8, ("a", "b"), program[2][1:]), [1])[0])

    def test_what_is_handed_in_and_told(self):
        cuts, before = [2, 3, 3], copy.deepcopy(PROGRAM)
        told = costs(PROGRAM, cuts)
        self.assertEqual((cuts, PROGRAM), ([2, 3, 3], before))
        expected = list(told)
        told.clear()
        self.assertEqual(costs(PROGRAM, cuts), expected)
        self.assertTrue(all(type(cost) is int for cost in expected))


if __name__ == "__main__":
    unittest.main()

import copy
import random
import unittest

from nolitter.codes import check_code
from nolitter.cuts import costs, even, stretches
from nolitter.errors import BadCuts, BadPlan
from nolitter.maker import made, steps, stops
from nolitter.meaning import run
from nolitter.pieces import kept, pieces, weight
from nolitter.planner import left_plan, shown_plan
from nolitter.plans import checked, most_marks, sets_along
from nolitter.rides import Ride, run_back, run_forth
from tests.samples import SIGNS, choose, clear, good_program, is_row_of_code, lay, random_state, times, wandering

SHOW = [("show",)]
SMALL = (8, ("a", "b"), (("op", "a", "+", "a", "b"), ("is", "b", 7), choose("a", [("is", "b", "a")], [("is", "a", 1)])))
ALL_SIGNS = (16, ("x", "y", "z"), tuple(("op", "zxy"[at % 3], sign, "xyz"[at % 3], "yzx"[at % 3])
                                        for at, sign in enumerate(SIGNS)))
ROUNDS = (8, ("n", "sum"), (times(3, ("op", "sum", "+", "sum", "n"), ("op", "n", "-", "n", 1)),
                            choose("sum", [times(2, choose("n", [("op", "n", "-", "n", 1)]))], [("is", "n", 255)]),
                            ("op", "sum", "<", 9, "sum")))
ONE_BIT = (1, ("a",), (("op", "a", "^", "a", 1), choose("a", [("is", "a", 0)]), ("is", "a", "a")))
SIX = (4, ("a", "b", "c", "d", "e", "f"), (
    ("op", "a", "=", "b", "c"), choose("a", [("op", "d", "+", "e", "f"), ("is", "f", 3)], [("is", "e", "f")]),
    ("op", "f", "-", "f", "d"), ("is", "b", "f"), ("op", "c", "|", "c", "a")))
PROGRAMS = (SMALL, ALL_SIGNS, ROUNDS, ONE_BIT, SIX)


def bound(program, cuts, s):
    """The most boxes that a made code may have."""
    heaviest = max(weight(stretch) for stretch in stretches(program, cuts))
    return (2 + s) * len(program[1]) + 20 * heaviest


class Look(unittest.TestCase):
    def look(self, program, cuts, s, plan, inputs):
        """Look at all that is promised of a made code."""
        word = checked(plan, len(cuts), s)
        code = made(program, cuts, s, plan)
        self.look_at_code(code, program, cuts, s)
        told = steps(program, cuts, s, plan)
        prices = costs(program, cuts)
        self.assertEqual(told, sum(prices[move[1] - 1] for move in plan if len(move) == 2) + len(program[1]))
        for numbers in inputs:
            trace = self.forth(code, numbers, told)
            answer = run(program, numbers)
            rest = [0] * (code[0] - 2 * len(numbers))
            self.assertEqual(trace[-1], (len(code[1]), list(numbers) + answer + rest))
            self.look_at_stops(trace, stops(program, cuts, s, plan), program, cuts, plan, word, numbers)
            self.back(code, trace, len(trace) - 1)
            self.back(code, trace, random.Random(told).randrange(len(trace)))

    def look_at_code(self, code, program, cuts, s):
        self.assertEqual((type(code), type(code[0]), type(code[1])), (tuple, int, list))
        self.assertTrue(all(is_row_of_code(row) for row in code[1]))
        self.assertIsNone(check_code(code))
        self.assertLessEqual(code[0], bound(program, cuts, s))

    def forth(self, code, numbers, told):
        """The places and boxes that the run comes through, in just the steps told."""
        ride = Ride(code, list(numbers) + [0] * (code[0] - len(numbers)))
        trace = [(ride.place(), ride.boxes())]
        while ride.forth():
            trace.append((ride.place(), ride.boxes()))
        self.assertEqual(len(trace), told + 1)
        return trace

    def back(self, code, trace, start):
        """The run back from one moment comes through just the moments ahead of it."""
        ride = Ride(code, trace[start][1], trace[start][0])
        for place, boxes in reversed(trace[:start]):
            self.assertTrue(ride.back())
            self.assertEqual((ride.place(), ride.boxes()), (place, boxes))
        self.assertFalse(ride.back())

    def look_at_stops(self, trace, told, program, cuts, plan, word, numbers):
        many = len(program[1])
        self.assertEqual(len(told), len(plan) + 1)
        self.assertEqual(told[0], (0, {}))
        places = [place for place, boxes in trace]
        moments = [self.only_moment(places, place) for place, slots in told]
        self.assertEqual(moments, sorted(moments))
        self.assertEqual([place for place, slots in told], sorted({place for place, slots in told}))
        self.look_at_moves([after - before for before, after in zip(moments, moments[1:])], program, cuts, plan)
        states = kept(program, numbers)
        sets = sets_along(plan)
        for at, (place, slots) in enumerate(told):
            boxes = trace[moments[at]][1]
            expected = list(numbers) + [0] * (len(boxes) - many)
            if word == "shown" and ("show",) in plan[:at]:
                expected[many:2 * many] = states[-1]
            self.assertEqual(list(slots), [k for k in range(1, len(cuts) + 1) if sets[at] >> (k - 1) & 1])
            for k, slot in slots.items():
                self.assertGreaterEqual(slot, 2 * many)
                self.assertEqual(expected[slot:slot + many], [0] * many)
                expected[slot:slot + many] = states[sum(cuts[:k])]
            self.assertEqual(boxes, expected, (at, place))

    def only_moment(self, places, place):
        self.assertEqual(places.count(place), 1)
        return places.index(place)

    def look_at_moves(self, taken, program, cuts, plan):
        """Each lay and clear takes its cost, a show one step for each box."""
        prices = costs(program, cuts)
        self.assertEqual(taken, [prices[move[1] - 1] if len(move) == 2 else len(program[1]) for move in plan])

    def inputs(self, program, many=2):
        return [random_state(seed, program) for seed in range(many)]


class ByHand(Look):
    def test_one_stretch(self):
        for program in PROGRAMS:
            cuts = [len(pieces(program))]
            for s in (1, 2, 8):
                self.look(program, cuts, s, lay(1), self.inputs(program))
                self.look(program, cuts, s, lay(1) + SHOW + clear(1), self.inputs(program))

    def test_two_stretches(self):
        for program in PROGRAMS:
            many = len(pieces(program))
            for cuts in ([1, many - 1], [many - 1, 1]):
                for s in (2, 3):
                    self.look(program, cuts, s, lay(1, 2) + clear(1), self.inputs(program))
                    self.look(program, cuts, s, lay(1, 2) + SHOW + clear(2, 1), self.inputs(program))
                    self.look(program, cuts, s, lay(1, 2) + clear(1) + SHOW + lay(1) + clear(2, 1), self.inputs(program))

    def test_three_stretches(self):
        up, down = lay(1, 2) + clear(1) + lay(3), clear(3) + lay(1) + clear(2, 1)
        for program in (SMALL, ONE_BIT):
            self.look(program, [1, 1, 1], 2, up + SHOW + down, self.inputs(program, 4))
        self.look(SMALL, [1, 1, 1], 3, lay(1, 2, 3) + clear(2, 1), self.inputs(SMALL, 4))

    def test_what_is_made_in_figures(self):
        program = (8, ("a", "b"), (("is", "a", "b"), ("is", "b", 3)))
        plan = lay(1, 2) + SHOW + clear(2, 1)
        self.assertEqual(costs(program, [1, 1]), [2, 4])
        self.assertEqual(steps(program, [1, 1], 2, plan), 2 + 4 + 4 + 2 + 2)
        told = stops(program, [1, 1], 2, plan)
        self.assertEqual([list(slots) for place, slots in told], [[], [1], [1, 2], [1, 2], [1], []])
        self.assertEqual([place for place, slots in told], [0, 2, 6, 8, 12, 14])
        code = made(program, [1, 1], 2, plan)
        self.assertEqual(run_forth(code, [5, 9] + [0] * (code[0] - 2), 100)[2][:4], [5, 9, 9, 3])

    def test_shows_amid(self):
        # The show may stand anywhere while the last mark does.
        for program in (SMALL, SIX):
            many = len(pieces(program))
            plan = lay(1, 2) + clear(2) + lay(2) + SHOW + clear(2) + lay(2) + clear(1) + lay(1) + clear(2, 1)
            self.look(program, even(many, 2), 2, plan, self.inputs(program))

    def test_each_kind_of_row(self):
        for sign in SIGNS:
            program = (3, ("a", "b"), (("op", "a", sign, "a", "b"), ("op", "b", sign, 5, "a"), ("is", "a", 6)))
            plan = lay(1, 2, 3) + SHOW + clear(3, 2, 1)
            self.look(program, [1, 1, 1], 3, plan, [[a, b] for a in (0, 3, 7) for b in (0, 5, 7)])
        rows = (choose("a", [("is", "b", 0)], [("is", "b", "a")]), choose(1), choose("b", (), [times(2, ("is", "a", 1))]))
        for numbers in ([0, 0], [7, 0], [0, 7], [7, 7]):
            self.look((3, ("a", "b"), rows), [1, 2], 2, lay(1, 2) + clear(1), [numbers])

    def test_the_same_steps_whatever_the_input(self):
        plan = lay(1, 2) + clear(1)
        code, told = made(ROUNDS, [4, 4], 2, plan), steps(ROUNDS, [4, 4], 2, plan)
        for n in range(0, 256, 15):
            for total in (0, 1, 250):
                forth = run_forth(code, [n, total] + [0] * (code[0] - 2), 10 ** 6)
                self.assertEqual((forth[0], forth[3]), ("end", told))
                self.assertEqual(forth[2], [n, total] + run(ROUNDS, [n, total]) + [0] * (code[0] - 4))
                self.assertEqual(run_back(code, forth[2], forth[1], 10 ** 6),
                                 ("begin", 0, [n, total] + [0] * (code[0] - 2), told))


class Plans(Look):
    def test_the_cheapest_plans(self):
        for program in PROGRAMS:
            many = len(pieces(program))
            for n in sorted({2, 3, many}):
                cuts = even(many, n)
                prices = costs(program, cuts)
                for s in range(9):
                    for plan in (left_plan(prices, s), shown_plan(prices, s)):
                        if plan is not None and s in (2, 3, 4, 8):
                            self.look(program, cuts, s, plan, self.inputs(program, 1))

    def test_spare_places_from_few_to_more(self):
        plan = shown_plan(costs(SIX, [1] * 5), 3)
        self.assertEqual(most_marks(plan), 3)
        for s in range(3, 12):
            self.look(SIX, [1] * 5, s, plan, self.inputs(SIX, 1))

    def test_plans_to_and_fro(self):
        for seed in range(24):
            program = PROGRAMS[seed % 5]
            many = len(pieces(program))
            n, s = 1 + seed % min(4, many), 3 + seed % 2
            cuts = even(many, n)
            prices = costs(program, cuts)
            for plan in (left_plan(prices, s), shown_plan(prices, s)):
                self.look(program, cuts, s, wandering(seed, plan, n, s, 3), self.inputs(program, 1))

    def test_many_stretches(self):
        program = (8, ("a", "b"), (times(12, ("op", "a", "+", "a", "b"), ("is", "b", "a")),))
        for s in (5, 8):
            self.look(program, [1] * 24, s, shown_plan(costs(program, [1] * 24), s), self.inputs(program, 1))
        self.look(program, [1] * 24, 6, left_plan(costs(program, [1] * 24), 6), self.inputs(program, 1))

    def test_many_programs(self):
        looked = 0
        for seed in range(60):
            program = good_program(seed, 3, 2)
            some = pieces(program)
            if not some or weight(some) > 40:
                continue
            chance = random.Random(seed)
            n = chance.randrange(1, min(len(some), 5) + 1)
            cuts = self.any_cuts(chance, len(some), n)
            s = chance.randrange(3, 6)
            prices = costs(program, cuts)
            plan = chance.choice((left_plan(prices, s) or shown_plan(prices, s), shown_plan(prices, s)))
            self.look(program, cuts, s, wandering(seed, plan, n, s, chance.randrange(2)), self.inputs(program, 1))
            looked += 1
        self.assertGreater(looked, 35)

    def any_cuts(self, chance, many, n):
        ends = sorted(chance.sample(range(1, many), n - 1)) + [many]
        return [end - begin for begin, end in zip([0] + ends, ends)]

    def test_plans_that_were_changed(self):
        refused, let_by = 0, 0
        for seed in range(150):
            chance = random.Random(seed)
            program, n = PROGRAMS[seed % 5], 3
            cuts = even(len(pieces(program)), n)
            plan = shown_plan(costs(program, cuts), 3) if seed % 2 else left_plan(costs(program, cuts), 3)
            changed = self.changed(chance, wandering(seed, plan, n, 3, 1), n)
            try:
                checked(changed, n, 3)
            except BadPlan as refusal:
                for asked in (made, steps, stops):
                    with self.assertRaises(BadPlan) as caught:
                        asked(program, cuts, 3, changed)
                    self.assertEqual(caught.exception.at, refusal.at)
                refused += 1
            else:
                self.look(program, cuts, 3, changed, self.inputs(program, 1))
                let_by += 1
        self.assertGreater(refused, 50)
        self.assertGreater(let_by, 10)

    def changed(self, chance, plan, n):
        plan, at = list(plan), chance.randrange(len(plan))
        kind = chance.randrange(4)
        if kind == 0:
            del plan[at]
        elif kind == 1:
            plan.insert(at, chance.choice(lay(*range(n + 2)) + clear(*range(n + 2)) + SHOW))
        elif kind == 2:
            plan[at] = chance.choice(lay(*range(n + 2)) + clear(*range(n + 2)) + SHOW)
        else:
            other = chance.randrange(len(plan))
            plan[at], plan[other] = plan[other], plan[at]
        return plan


class Refused(unittest.TestCase):
    def refused(self, error, program, cuts, s, plan):
        told = []
        for asked in (made, stops, steps):
            with self.assertRaises(error, msg=(cuts, s, plan)) as caught:
                asked(program, cuts, s, plan)
            told.append(caught.exception)
        return told

    def test_cuts(self):
        for cuts in ([], [0], [2], [4], [1, 1], [1, 1, 1, 1], [0, 3], [3, 0], [-1, 4], [4, -1]):
            for plan in (lay(1), [], lay(2)):
                self.refused(BadCuts, SMALL, cuts, 1, plan)

    def test_a_program_without_pieces(self):
        for rows in ((), (times(0, ("is", "a", 1)),)):
            for cuts in ([], [0], [1]):
                self.refused(BadCuts, (8, ("a",), rows), cuts, 1, lay(1))

    def test_plans(self):
        for cuts, s, plan, at in (
                ([3], 1, [], 0),
                ([3], 0, lay(1), 0),
                ([3], 1, lay(2), 0),
                ([3], 1, lay(0), 0),
                ([3], 1, lay(-1), 0),
                ([3], 1, clear(1), 0),
                ([3], 1, SHOW, 0),
                ([3], 1, lay(1, 1), 1),
                ([3], 1, lay(1) + SHOW, 2),
                ([3], 1, lay(1) + SHOW + SHOW, 2),
                ([3], 1, lay(1) + clear(1), 2),
                ([3], 1, lay(1) + clear(1, 1), 2),
                ([1, 2], 2, lay(1), 1),
                ([1, 2], 1, lay(1, 2), 1),
                ([1, 2], 2, lay(1) + SHOW, 1),
                ([1, 2], 2, lay(1, 2), 2),
                ([1, 2], 2, lay(1, 2) + clear(1, 2), 3),
                ([1, 2], 2, lay(1, 2, 3), 2),
                ([1, 1, 1], 2, lay(1, 2, 3), 2)):
            for refusal in self.refused(BadPlan, SMALL, cuts, s, plan):
                self.assertEqual(refusal.at, at, (cuts, s, plan))

    def test_cuts_are_refused_ahead_of_plans(self):
        self.refused(BadCuts, SMALL, [1, 1], 0, [])
        self.refused(BadCuts, SMALL, [], 0, lay(1, 1))


class Handed(unittest.TestCase):
    PLAN = lay(1, 2) + SHOW + clear(2, 1)

    def test_what_is_handed_in_stays(self):
        program, cuts, plan = copy.deepcopy(SMALL), [1, 2], list(self.PLAN)
        first = [asked(program, cuts, 2, plan) for asked in (made, stops, steps)]
        self.assertEqual((program, cuts, plan), (SMALL, [1, 2], self.PLAN))
        self.assertEqual([asked(program, cuts, 2, plan) for asked in (made, stops, steps)], first)
        before = copy.deepcopy(first)
        cuts[0] = 7
        plan.clear()
        self.assertEqual(first, before)

    def test_what_is_told_is_the_asker_s_own(self):
        code, told = made(SMALL, [1, 2], 2, self.PLAN), stops(SMALL, [1, 2], 2, self.PLAN)
        before = copy.deepcopy((code, told))
        code[1].clear()
        told[2][1][99] = 5
        # Behind the show the same marks stand as ahead of it, told in a dict of its own.
        self.assertEqual(told[3], before[1][3])
        told.pop()
        self.assertEqual((made(SMALL, [1, 2], 2, self.PLAN), stops(SMALL, [1, 2], 2, self.PLAN)), before)

    def test_kinds(self):
        self.assertIs(type(steps(SMALL, [1, 2], 2, self.PLAN)), int)
        told = stops(SMALL, [1, 2], 2, self.PLAN)
        self.assertIs(type(told), list)
        for stop in told:
            self.assertEqual((type(stop), type(stop[0]), type(stop[1])), (tuple, int, dict))


if __name__ == "__main__":
    unittest.main()

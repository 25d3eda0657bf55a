"""From a program's text to the answer of its code, forth and back."""

import copy
import random
import unittest

from nolitter.codes import check_code, joined
from nolitter.codetexts import read_code, show_code
from nolitter.cuts import costs, even, stretches
from nolitter.desk import Desk
from nolitter.distances import distances, way_to
from nolitter.errors import BadPlan
from nolitter.maker import made, steps, stops
from nolitter.meaning import run, through
from nolitter.pieces import kept, pieces, weight
from nolitter.plain import check, rows_in
from nolitter.planner import left_plan, shown_plan
from nolitter.plans import checked, most_marks, sets_along, turned_plan, work
from nolitter.plantexts import read_plan, show_plan
from nolitter.rides import Ride, run_back, run_forth
from nolitter.sets import come_to, moves_from
from nolitter.table import alone, alone_reach, reach, reached
from nolitter.texts import read, show
from nolitter.thinner import thinned
from nolitter.turned import turned
from nolitter.weave import weave
from tests.samples import good_program, random_state, wandering

TEXT = """wide 8
boxes n total odd
times 4
odd = n & 1
choose odd
total = total + n
else
total = total ^ n
end
n = n - 1
end
odd = total < 100"""


class Whole(unittest.TestCase):
    def test_by_hand(self):
        program = read(TEXT)
        self.assertIsNone(check(program))
        # total becomes 7, 1, 6, 2 (by 7 added, 6 turned, 5 added, 4 turned).
        self.assertEqual(run(program, [7, 0, 0]), [3, 2, 1])
        self.assertEqual((len(pieces(program)), weight(pieces(program))), (13, 21))
        cuts = even(13, 5)
        self.assertEqual(cuts, [3, 3, 3, 2, 2])
        prices = costs(program, cuts)
        plan = shown_plan(prices, 3)
        self.assertEqual((checked(plan, 5, 3), work(plan, prices)), ("shown", 2 * reached(prices, 3)))
        code = made(program, cuts, 3, plan)
        begin = [7, 0, 0] + [0] * (code[0] - 3)
        end = [7, 0, 0, 3, 2, 1] + [0] * (code[0] - 6)
        told = steps(program, cuts, 3, plan)
        self.assertEqual(told, 2 * reached(prices, 3) + 3)
        self.assertEqual(run_forth(code, begin, 10 ** 6), ("end", len(code[1]), end, told))
        self.assertEqual(run_back(code, end, len(code[1]), 10 ** 6), ("begin", 0, begin, told))
        desk = Desk()
        desk.say("keep " + TEXT.replace("\n", ";"))
        self.assertEqual(desk.say("ride 5 3 7 0 0"), f"3 2 1 in {told}")

    def test_many_programs_from_their_texts(self):
        looked = 0
        for seed in range(80):
            program = read(show(good_program(seed, 4, 2)))
            many = len(pieces(program))
            if not 0 < weight(pieces(program)) <= 60:
                continue
            chance = random.Random(seed)
            n = chance.randrange(1, min(many, 7) + 1)
            s = chance.randrange(1, 6)
            cuts = even(many, n)
            prices = costs(program, cuts)
            plans = [left_plan(prices, s), shown_plan(prices, s)]
            self.assertEqual([plan is None for plan in plans], [n > alone_reach(s), n > reach(s)])
            for plan in plans:
                if plan is not None:
                    self.look(program, cuts, s, wandering(seed, plan, n, s, seed % 2), random_state(seed, program))
                    looked += 1
        self.assertGreater(looked, 60)

    def look(self, program, cuts, s, plan, numbers):
        plan = read_plan(show_plan(plan))
        word = checked(plan, len(cuts), s)
        code = read_code(show_code(made(program, cuts, s, plan)))
        self.assertIsNone(check_code(code))
        begin = numbers + [0] * (code[0] - len(numbers))
        end = numbers + run(program, numbers) + [0] * (code[0] - 2 * len(numbers))
        told = steps(program, cuts, s, plan)
        self.assertEqual(run_forth(code, begin, 10 ** 6), ("end", len(code[1]), end, told))
        self.assertEqual(run_back(code, end, len(code[1]), 10 ** 6), ("begin", 0, begin, told))
        self.assertEqual(run_forth(turned(code), end, 10 ** 6), ("end", len(code[1]), begin, told))
        self.look_at_marks(code, begin, stops(program, cuts, s, plan), program, cuts, plan)
        if word == "shown":
            self.assertEqual(checked(turned_plan(plan), len(cuts), s), "shown")

    def look_at_marks(self, code, begin, told, program, cuts, plan):
        """Just the marks that the plan says stand, each with its halfway state."""
        states, many = kept(program, begin[:len(program[1])]), len(program[1])
        ride, places = Ride(code, begin), []
        for (place, slots), marks in zip(told, sets_along(plan)):
            while ride.place() != place:
                self.assertTrue(ride.forth())
            places.append(place)
            self.assertEqual(sum(2 ** (k - 1) for k in slots), marks)
            for k, slot in slots.items():
                self.assertEqual(tuple(ride.boxes()[slot:slot + many]), states[sum(cuts[:k])])
        self.assertEqual(places, sorted(set(places)))

    def test_no_plan_at_all_is_cheaper(self):
        program = read(TEXT)
        for n in range(1, 9):
            prices = costs(program, even(13, n))
            for s in range(5):
                told, last = distances(prices, s), 2 ** (n - 1)
                self.assertEqual(list(told), come_to(n, s))
                self.assertEqual(alone(prices, s), told.get(last))
                come = {marks: told[marks] for marks in told if marks & last}
                self.assertEqual(reached(prices, s), min(come.values(), default=None))
                if come:
                    way = thinned(way_to(prices, s, min(come, key=come.get)))
                    plan = way + [("show",)] + turned_plan(way)
                    self.assertEqual(work(plan, prices), work(shown_plan(prices, s), prices))
                    self.assertEqual(checked(plan, n, s), "shown")

    def test_places_that_are_too_few(self):
        program = read(TEXT)
        cuts = even(13, 4)
        plan = shown_plan(costs(program, cuts), 3)
        for s in range(3):
            with self.assertRaises(BadPlan):
                made(program, cuts, s, plan)


def spoil(told):
    """Change all that can be changed in what was told."""
    if isinstance(told, (list, tuple)):
        for part in told:
            spoil(part)
    if isinstance(told, dict):
        for part in told.values():
            spoil(part)
    if isinstance(told, (list, dict)):
        told.clear()


class Handed(unittest.TestCase):
    def questions(self):
        """Each function that takes or tells what can be changed, with what it is handed."""
        program = read(TEXT)
        cuts = even(13, 4)
        prices = costs(program, cuts)
        plan, way = shown_plan(prices, 3), left_plan(prices, 3)
        code = made(program, cuts, 3, plan)
        end = run_forth(code, [7, 0, 0] + [0] * (code[0] - 3), 10 ** 6)[2]
        return [
            (check, program), (show, program), (run, program, [7, 0, 0]), (through, list(program[2]), program[1], 8, (7, 0, 0)),
            (pieces, program), (kept, program, [7, 0, 0]), (weight, pieces(program)), (rows_in, list(program[2])),
            (check_code, code), (joined, [code, code]), (joined, [code]), (turned, code), (turned, (3, [])),
            (run_forth, code, [7, 0, 0] + [0] * (code[0] - 3), 50), (run_back, code, end, len(code[1]), 50),
            (weave, pieces(program), list(program[1]), 8, [0, 1, 2], 3), (weave, [], ["a"], 8, [0], 1),
            (checked, plan, 4, 3), (sets_along, plan), (most_marks, plan), (work, plan, prices), (turned_plan, plan),
            (thinned, way), (thinned, []), (alone, prices, 3), (reached, prices, 3), (left_plan, prices, 3), (shown_plan, prices, 3),
            (moves_from, 3, 4, 3), (come_to, 4, 3), (distances, prices, 3), (way_to, prices, 3, 8), (way_to, prices, 3, 0),
            (even, 13, 4), (stretches, program, cuts), (costs, program, cuts), (made, program, cuts, 3, plan),
            (stops, program, cuts, 3, plan), (steps, program, cuts, 3, plan), (made, program, cuts, 3, way),
            (show_code, code), (read_code, show_code(code)), (show_plan, plan), (read_plan, show_plan(plan)), (read, TEXT),
        ]

    def test_nothing_that_is_handed_in_is_changed(self):
        for function, *handed in self.questions():
            before = copy.deepcopy(handed)
            function(*handed)
            self.assertEqual(handed, before, function.__name__)

    def test_what_is_told_is_the_asker_s_own(self):
        for function, *handed in self.questions():
            # The same code and plan are handed in to several, and are spoiled here.
            before, handed = handed, copy.deepcopy(handed)
            expected = copy.deepcopy(function(*handed))
            spoil(function(*handed))
            self.assertEqual(handed, before, function.__name__)
            self.assertEqual(function(*handed), expected, function.__name__)
            told = function(*handed)
            spoil(handed)
            self.assertEqual(told, expected, function.__name__)

    def test_a_ride_is_changed_by_its_own_methods_alone(self):
        rows, boxes = [("add", 0, ("num", 5)), ("swap", 0, 1)], [1, 2]
        ride = Ride((2, rows), boxes)
        rows.clear()
        boxes[0] = 9
        ride.boxes().clear()
        self.assertEqual([ride.forth(), ride.forth(), ride.forth()], [True, True, False])
        self.assertEqual((ride.place(), ride.boxes(), boxes), (2, [2, 6], [9, 2]))


if __name__ == "__main__":
    unittest.main()

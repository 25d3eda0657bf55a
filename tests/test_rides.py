import copy
import random
import unittest

from nolitter.codes import check_code, joined
from nolitter.rides import Ride, run_back, run_forth
from tests.samples import random_boxes, random_code

TOP = 2 ** 32


def standing(ride):
    return (ride.place(), ride.boxes())


def forth_by_the_words(code, place, boxes):
    """Where a step forth leads, written anew from the words; None where none is done."""
    size, rows = code
    boxes = list(boxes)
    if place == len(rows):
        return None
    row = rows[place]
    word, box = row[0], row[1]
    if word == "go":
        return (row[3] + 1 if boxes[box] == row[2] else place + 1, boxes)
    if word == "come":
        return None if boxes[box] == row[2] else (place + 1, boxes)
    if word == "swap":
        boxes[box], boxes[row[2]] = boxes[row[2]], boxes[box]
    elif word == "turn":
        if all((boxes[other] // 2 ** bit) % 2 == 1 for other, bit in row[3]):
            bit = 2 ** row[2]
            boxes[box] += -bit if (boxes[box] // bit) % 2 else bit
    else:
        number = boxes[row[2][1]] if row[2][0] == "box" else row[2][1]
        boxes[box] = (boxes[box] + (number if word == "add" else TOP - number)) % TOP
    return (place + 1, boxes)


# Box 1 counts the rounds; box 0 is 1 from the first round on, so the round ends when box 1 is 0 again.
LONG_ROUND = (2, [("come", 0, 1, 6), ("add", 1, ("num", 1)), ("turn", 0, 0, ()), ("go", 1, 1, 5), ("turn", 0, 0, ()),
                  ("come", 1, 1, 3), ("go", 0, 1, 0)])
# Box 1 is counted up to 4; box 0 is 1 just at the rounds' ends that are not the last one.
FOUR_ROUNDS = (2, [("come", 0, 1, 10), ("turn", 0, 0, ()), ("go", 1, 0, 4), ("turn", 0, 0, ()), ("come", 1, 0, 2),
                   ("turn", 0, 0, ()), ("add", 1, ("num", 1)), ("go", 1, 4, 9), ("turn", 0, 0, ()),
                   ("come", 1, 4, 7), ("go", 0, 1, 0)])


class Rows(unittest.TestCase):
    def step(self, size, row, boxes, expected):
        """A row by itself, forth and back again, and back and forth again."""
        code = (size, [row])
        check_code(code)
        ride = Ride(code, boxes)
        self.assertIs(ride.forth(), True)
        self.assertEqual(standing(ride), (1, expected))
        self.assertIs(ride.forth(), False)
        self.assertEqual(standing(ride), (1, expected))
        self.assertIs(ride.back(), True)
        self.assertEqual(standing(ride), (0, boxes))
        self.assertIs(ride.back(), False)
        self.assertEqual(standing(ride), (0, boxes))
        behind = Ride(code, expected, 1)
        self.assertIs(behind.back(), True)
        self.assertEqual(standing(behind), (0, boxes))
        self.assertIs(behind.forth(), True)
        self.assertEqual(standing(behind), (1, expected))

    def test_add(self):
        self.step(2, ("add", 0, ("num", 7)), [5, 9], [12, 9])
        self.step(2, ("add", 0, ("num", 0)), [5, 9], [5, 9])
        self.step(2, ("add", 1, ("num", 1)), [5, TOP - 1], [5, 0])
        self.step(2, ("add", 1, ("num", TOP - 1)), [5, TOP - 1], [5, TOP - 2])
        self.step(2, ("add", 0, ("box", 1)), [5, 9], [14, 9])
        self.step(2, ("add", 0, ("box", 1)), [1, TOP - 1], [0, TOP - 1])

    def test_take(self):
        self.step(2, ("take", 0, ("num", 7)), [9, 9], [2, 9])
        self.step(2, ("take", 0, ("num", 0)), [5, 9], [5, 9])
        self.step(2, ("take", 1, ("num", 1)), [5, 0], [5, TOP - 1])
        self.step(2, ("take", 0, ("num", TOP - 1)), [0, 9], [1, 9])
        self.step(2, ("take", 0, ("box", 1)), [5, 9], [TOP - 4, 9])
        self.step(2, ("take", 0, ("box", 1)), [9, 9], [0, 9])

    def test_turn(self):
        self.step(1, ("turn", 0, 0, ()), [0], [1])
        self.step(1, ("turn", 0, 0, ()), [1], [0])
        self.step(1, ("turn", 0, 31, ()), [5], [5 + 2 ** 31])
        self.step(1, ("turn", 0, 31, ()), [TOP - 1], [2 ** 31 - 1])
        self.step(2, ("turn", 0, 2, ((1, 3),)), [3, 8], [7, 8])
        self.step(2, ("turn", 0, 2, ((1, 3),)), [3, TOP - 9], [3, TOP - 9])
        self.step(2, ("turn", 0, 2, ((1, 31),)), [7, 2 ** 31], [3, 2 ** 31])
        self.step(2, ("turn", 0, 2, ((1, 31),)), [7, 2 ** 31 - 1], [7, 2 ** 31 - 1])

    def test_turn_by_two_conds(self):
        for first in (0, 1):
            for second in (0, 1):
                row = ("turn", 0, 4, ((1, 0), (2, 31)))
                boxes = [1, first, second * 2 ** 31]
                self.step(3, row, boxes, [1 + 16 * (first & second)] + boxes[1:])
                row = ("turn", 2, 0, ((0, 1), (0, 2)))
                boxes = [first * 2 + second * 4, 9, 0]
                self.step(3, row, boxes, boxes[:2] + [first & second])

    def test_swap(self):
        self.step(3, ("swap", 0, 2), [1, 2, TOP - 1], [TOP - 1, 2, 1])
        self.step(2, ("swap", 1, 0), [1, 2], [2, 1])
        self.step(2, ("swap", 1, 0), [6, 6], [6, 6])


class GoesAndComes(unittest.TestCase):
    def steps(self, code, boxes, place, way, expected):
        """The places that steps lead to; False where none is done."""
        check_code(code)
        ride = Ride(code, boxes, place)
        told = []
        for count in range(len(expected)):
            before = standing(ride)
            done = ride.forth() if way == "forth" else ride.back()
            told.append(ride.place() if done else done)
            if not done:
                self.assertIs(done, False)
                self.assertEqual(standing(ride), before)
        self.assertEqual(told, expected)

    def test_a_go_ahead_of_its_come(self):
        add = ("add", 1, ("num", 1))
        code = (2, [add, ("go", 0, 3, 3), add, ("come", 0, 3, 1), add])
        self.steps(code, [3, 0], 0, "forth", [1, 4, 5, False])
        self.steps(code, [2, 0], 0, "forth", [1, 2, 3, 4, 5, False])
        self.steps(code, [3, 0], 5, "back", [4, 1, 0, False])
        self.steps(code, [2, 0], 5, "back", [4, 3, 2, 1, 0, False])

    def test_torn(self):
        add = ("add", 1, ("num", 1))
        code = (2, [add, ("go", 0, 3, 3), add, ("come", 0, 3, 1), add])
        self.steps(code, [3, 0], 2, "forth", [3, False, False])
        self.steps(code, [3, 0], 3, "back", [2, False, False])
        code = (1, [("come", 0, 0, 1), ("go", 0, 0, 0)])
        self.steps(code, [0], 0, "forth", [False, False])
        self.steps(code, [0], 2, "back", [False, False])

    def test_torn_back_and_on_again(self):
        ride = Ride((2, [("go", 0, 3, 1), ("come", 0, 3, 0)]), [3, 4], 1)
        self.assertIs(ride.forth(), False)
        self.assertIs(ride.back(), False)
        self.assertEqual(standing(ride), (1, [3, 4]))

    def test_a_go_behind_its_come(self):
        code = (1, [("come", 0, 2, 2), ("add", 0, ("num", 1)), ("go", 0, 2, 0)])
        self.steps(code, [0], 0, "forth", [1, 2, 3, False])
        self.steps(code, [1], 0, "forth", [1, 2, 1, 2, 3, False])
        self.steps(code, [2], 0, "forth", [False])
        self.steps(code, [1], 3, "back", [2, 1, 0, False])
        self.steps(code, [3], 3, "back", [2, 1, 2, 1, 0, False])
        self.steps(code, [2], 3, "back", [False])

    def test_next_to_one_another(self):
        code = (1, [("go", 0, 0, 1), ("come", 0, 0, 0)])
        self.steps(code, [0], 0, "forth", [2, False])
        self.steps(code, [1], 0, "forth", [1, 2, False])
        self.steps(code, [0], 2, "back", [0, False])
        self.steps(code, [1], 2, "back", [1, 0, False])
        code = (1, [("come", 0, 0, 1), ("go", 0, 0, 0)])
        self.steps(code, [0], 1, "forth", [1, 1, 1])
        self.steps(code, [0], 1, "back", [1, 1, 1])
        self.steps(code, [1], 0, "forth", [1, 2, False])
        self.steps(code, [1], 2, "back", [1, 0, False])

    def test_crossed(self):
        code = (2, [("go", 0, 1, 2), ("go", 1, 1, 3), ("come", 0, 1, 0), ("come", 1, 1, 1)])
        self.steps(code, [0, 0], 0, "forth", [1, 2, 3, 4])
        self.steps(code, [1, 0], 0, "forth", [3, 4])
        self.steps(code, [0, 1], 0, "forth", [1, 4])
        self.steps(code, [1, 1], 0, "forth", [3, False])
        self.steps(code, [0, 0], 4, "back", [3, 2, 1, 0])
        self.steps(code, [1, 0], 4, "back", [3, 0])
        self.steps(code, [0, 1], 4, "back", [1, 0])
        self.steps(code, [1, 1], 4, "back", [1, False])

    def test_boxes_stay(self):
        code = (2, [("go", 0, 1, 1), ("come", 0, 1, 0)])
        for boxes in ([1, 7], [2, 7], [TOP - 1, 0]):
            ride = Ride(code, boxes)
            while ride.forth():
                self.assertEqual(ride.boxes(), boxes)
            while ride.back():
                self.assertEqual(ride.boxes(), boxes)


class AnyPlace(unittest.TestCase):
    def test_steps_are_those_of_the_words_and_are_undone(self):
        seen = {"forth": 0, "back": 0, "torn forth": 0, "torn back": 0}
        for seed in range(300):
            code = random_code(seed)
            for place in range(len(code[1]) + 1):
                for again in range(3):
                    boxes = random_boxes(1000 * seed + 3 * place + again, code[0])
                    self.look_forth(code, place, boxes, seen)
                    self.look_back(code, place, boxes, seen)
        self.assertGreater(min(seen.values()), 100, seen)

    def look_forth(self, code, place, boxes, seen):
        expected = forth_by_the_words(code, place, boxes)
        ride = Ride(code, boxes, place)
        self.assertIs(ride.forth(), expected is not None)
        self.assertEqual(standing(ride), expected or (place, boxes))
        if expected is not None:
            seen["forth"] += 1
            self.assertIs(ride.back(), True)
            self.assertEqual(standing(ride), (place, boxes))
        elif place < len(code[1]):
            seen["torn forth"] += 1

    def look_back(self, code, place, boxes, seen):
        ride = Ride(code, boxes, place)
        row = code[1][place - 1] if place else None
        torn = place > 0 and row[0] == "go" and boxes[row[1]] == row[2]
        self.assertIs(ride.back(), place > 0 and not torn)
        if place == 0 or torn:
            seen["torn back"] += torn
            self.assertEqual(standing(ride), (place, boxes))
        else:
            seen["back"] += 1
            self.assertEqual(forth_by_the_words(code, *standing(ride)), (place, boxes))
            self.assertIs(ride.forth(), True)
            self.assertEqual(standing(ride), (place, boxes))

    def test_back_through_all_that_it_came_through(self):
        for seed in range(200):
            code = random_code(seed)
            chance = random.Random(seed)
            ride = Ride(code, random_boxes(seed, code[0]), chance.randrange(len(code[1]) + 1))
            trace = [standing(ride)]
            while len(trace) < 60 and ride.forth():
                trace.append(standing(ride))
            for before in reversed(trace[:-1]):
                self.assertIs(ride.back(), True)
                self.assertEqual(standing(ride), before)


class Runs(unittest.TestCase):
    def test_end_with_each_bound(self):
        code = (1, [("add", 0, ("num", 1))] * 3)
        self.assertEqual(run_forth(code, [0], 0), ("tired", 0, [0], 0))
        self.assertEqual(run_forth(code, [0], 2), ("tired", 2, [2], 2))
        for most in (3, 4, 10 ** 12):
            self.assertEqual(run_forth(code, [0], most), ("end", 3, [3], 3))

    def test_begin_with_each_bound(self):
        code = (1, [("add", 0, ("num", 1))] * 3)
        self.assertEqual(run_back(code, [0], 3, 0), ("tired", 3, [0], 0))
        self.assertEqual(run_back(code, [0], 3, 2), ("tired", 1, [TOP - 2], 2))
        for most in (3, 4, 10 ** 12):
            self.assertEqual(run_back(code, [3], 3, most), ("begin", 0, [0], 3))
        self.assertEqual(run_back(code, [3], 2, 9), ("begin", 0, [1], 2))

    def test_no_rows(self):
        for most in (0, 5):
            self.assertEqual(run_forth((2, []), [8, 9], most), ("end", 0, [8, 9], 0))
            self.assertEqual(run_back((2, []), [8, 9], 0, most), ("begin", 0, [8, 9], 0))

    def test_begin_at_place_0_of_a_code_with_rows(self):
        for most in (0, 5):
            self.assertEqual(run_back((1, [("add", 0, ("num", 1))]), [4], 0, most), ("begin", 0, [4], 0))

    def test_torn_with_each_bound(self):
        add = ("add", 0, ("num", 1))
        code = (2, [add, ("go", 1, 0, 4), add, ("take", 1, ("num", 5)), ("come", 1, 0, 1), add])
        self.assertEqual(run_forth(code, [0, 5], 3), ("tired", 3, [2, 5], 3))
        for most in (4, 5, 10 ** 6):
            self.assertEqual(run_forth(code, [0, 5], most), ("torn", 4, [2, 0], 4))
        self.assertEqual(run_back(code, [9, TOP - 5], 6, 2), ("tired", 4, [8, TOP - 5], 2))
        self.assertEqual(run_back(code, [9, TOP - 5], 6, 3), ("tired", 3, [8, 0], 3))
        for most in (4, 5, 10 ** 6):
            self.assertEqual(run_back(code, [9, TOP - 5], 6, most), ("torn", 2, [7, 0], 4))

    def test_torn_at_once(self):
        code = (1, [("come", 0, 0, 1), ("go", 0, 0, 0)])
        for most in (0, 1, 7):
            self.assertEqual(run_forth(code, [0], most), ("torn", 0, [0], 0))
            self.assertEqual(run_back(code, [0], 2, most), ("torn", 2, [0], 0))

    def test_torn_one_row_ahead_of_the_end_is_no_end(self):
        code = (1, [("go", 0, 5, 2), ("add", 0, ("num", 1)), ("come", 0, 5, 0)])
        self.assertEqual(run_forth(code, [4], 99), ("torn", 2, [5], 2))
        self.assertEqual(run_back(code, [6], 3, 99), ("torn", 1, [5], 2))

    def test_rounds(self):
        check_code(FOUR_ROUNDS)
        word, place, boxes, steps = run_forth(FOUR_ROUNDS, [0, 0], 1000)
        self.assertEqual((word, place, boxes), ("end", 11, [0, 4]))
        self.assertEqual(run_forth(FOUR_ROUNDS, [0, 0], steps), ("end", 11, [0, 4], steps))
        self.assertEqual(run_forth(FOUR_ROUNDS, [0, 0], steps - 1)[0], "tired")
        self.assertEqual(run_back(FOUR_ROUNDS, boxes, place, 1000), ("begin", 0, [0, 0], steps))

    def test_a_round_without_end(self):
        check_code(LONG_ROUND)
        for most in (0, 1, 5, 1000, 20000):
            word, place, boxes, steps = run_forth(LONG_ROUND, [0, 0], most)
            self.assertEqual((word, steps), ("tired", most))
            self.assertEqual(run_back(LONG_ROUND, boxes, place, most), ("begin", 0, [0, 0], most))
        still = (1, [("come", 0, 1, 1), ("go", 0, 1, 0)])
        self.assertEqual(run_back(still, [1], 1, 5000), ("tired", 1, [1], 5000))

    def test_many_codes_with_many_bounds(self):
        words = {"end": 0, "torn": 0, "begin": 0, "tired": 0}
        for seed in range(300):
            code = random_code(seed)
            start = random_boxes(seed, code[0])
            trace = [(0, start)]
            while len(trace) <= 80 and forth_by_the_words(code, *trace[-1]):
                trace.append(forth_by_the_words(code, *trace[-1]))
            for most in {0, 1, len(trace) - 2, len(trace) - 1, len(trace), 80} & set(range(81)):
                place, boxes = trace[min(most, len(trace) - 1)]
                word = "end" if place == len(code[1]) else "tired"
                if word == "tired" and forth_by_the_words(code, place, boxes) is None:
                    word = "torn"
                steps = min(most, len(trace) - 1)
                words[word] += 1
                self.assertEqual(run_forth(code, start, most), (word, place, boxes, steps))
                self.assertEqual(run_back(code, boxes, place, steps), ("begin", 0, start, steps))
                words["begin"] += 1
        self.assertGreater(min(words.values()), 50, words)

    def test_many_steps(self):
        code = joined([(2, [("add", 0, ("box", 1)), ("swap", 0, 1)] * 10000)])
        word, place, boxes, steps = run_forth(code, [0, 1], 200000)
        self.assertEqual((word, place, steps), ("end", 20000, 20000))
        self.assertEqual(run_back(code, boxes, place, 200000), ("begin", 0, [0, 1], 20000))


class Handed(unittest.TestCase):
    CODE = (2, [("add", 0, ("box", 1)), ("swap", 0, 1)])

    def test_a_ride_begins_at_place_0(self):
        self.assertEqual(standing(Ride(self.CODE, [1, 2])), (0, [1, 2]))
        self.assertEqual(standing(Ride(self.CODE, [1, 2], place=2)), (2, [1, 2]))

    def test_what_boxes_tells_is_the_asker_s_own(self):
        ride = Ride(self.CODE, [1, 2])
        told = ride.boxes()
        self.assertIs(type(told), list)
        told[0] = 99
        told.append(5)
        self.assertEqual(ride.boxes(), [1, 2])
        ride.forth()
        self.assertEqual(told, [99, 2, 5])
        self.assertEqual(ride.boxes(), [3, 2])

    def test_what_is_changed_behind_the_call_changes_nothing(self):
        code = copy.deepcopy(self.CODE)
        boxes = [1, 2]
        ride = Ride(code, boxes)
        boxes[0] = 50
        code[1][0] = ("take", 0, ("num", 9))
        code[1].append(("add", 0, ("num", 1)))
        self.assertTrue(ride.forth() and ride.forth())
        self.assertEqual(standing(ride), (2, [2, 3]))
        self.assertIs(ride.forth(), False)
        code[1].clear()
        self.assertTrue(ride.back() and ride.back())
        self.assertEqual(standing(ride), (0, [1, 2]))

    def test_what_is_handed_in_stays(self):
        code = copy.deepcopy(self.CODE)
        boxes = [1, 2]
        ride = Ride(code, boxes)
        ride.forth()
        self.assertEqual((code, boxes), (self.CODE, [1, 2]))
        forth = run_forth(code, boxes, 9)
        back = run_back(code, boxes, 2, 9)
        self.assertEqual((code, boxes), (self.CODE, [1, 2]))
        self.assertEqual(run_forth(code, boxes, 9), forth)
        self.assertEqual(run_back(code, boxes, 2, 9), back)
        self.assertEqual((type(forth), type(forth[2]), type(back), type(back[2])), (tuple, list, tuple, list))

    def test_runs_without_a_step_tell_boxes_of_their_own(self):
        boxes = [1, 2]
        run_forth(self.CODE, boxes, 0)[2].append(3)
        run_back(self.CODE, boxes, 2, 0)[2].append(3)
        self.assertEqual(boxes, [1, 2])

    def test_two_rides_of_one_code_are_apart(self):
        first, second = Ride(self.CODE, [1, 2]), Ride(self.CODE, [1, 2])
        first.forth()
        self.assertEqual([standing(first), standing(second)], [(1, [3, 2]), (0, [1, 2])])


if __name__ == "__main__":
    unittest.main()

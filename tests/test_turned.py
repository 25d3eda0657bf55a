import copy
import unittest

from nolitter.codes import check_code, joined
from nolitter.rides import Ride, run_back, run_forth
from nolitter.turned import turned
from tests.samples import random_boxes, random_code

TOP = 2 ** 32
ADD = ("add", 1, ("num", 1))

# Goes and comes in each order, among rows that change their boxes, too.
CODES = {
    "ahead": (2, [ADD, ("go", 0, 3, 3), ADD, ("come", 0, 3, 1), ADD]),
    "behind": (2, [("come", 0, 2, 2), ("add", 0, ("num", 1)), ("go", 0, 2, 0), ADD]),
    "crossed": (2, [("go", 0, 1, 2), ("go", 1, 1, 3), ("come", 0, 1, 0), ("come", 1, 1, 1)]),
    "within": (2, [("go", 0, 1, 4), ("go", 1, 0, 3), ("swap", 0, 1), ("come", 1, 0, 1), ("come", 0, 1, 0), ADD]),
    "next": (1, [("go", 0, 0, 1), ("come", 0, 0, 0)]),
    "next, behind": (1, [("come", 0, 0, 1), ("go", 0, 0, 0)]),
    "alone": (2, [("turn", 0, 31, ((1, 0),)), ("turn", 1, 0, ()), ("swap", 1, 0), ("take", 0, ("box", 1)),
                  ("add", 0, ("num", TOP - 1)), ("turn", 0, 2, ((1, 3), (1, 4)))]),
    "none": (3, []),
}


def forth(code, place, boxes):
    """Where a step forth leads to; None where none is done."""
    ride = Ride(code, boxes, place)
    return (ride.place(), ride.boxes()) if ride.forth() else None


def back(code, place, boxes):
    """Where a step back leads to; None where none is done."""
    ride = Ride(code, boxes, place)
    return (ride.place(), ride.boxes()) if ride.back() else None


def mirrored(code, stand):
    """The place as far from the other end, boxes alike."""
    return stand and (len(code[1]) - stand[0], stand[1])


class ByHand(unittest.TestCase):
    def test_each_row(self):
        for row, other in (
                (("add", 0, ("box", 1)), ("take", 0, ("box", 1))), (("add", 2, ("num", 7)), ("take", 2, ("num", 7))),
                (("turn", 0, 3, ((1, 2), (2, 1))),) * 2, (("turn", 0, 3, ()),) * 2, (("swap", 0, 1),) * 2):
            self.assertEqual(turned((3, [row])), (3, [other]))
            self.assertEqual(turned((3, [other])), (3, [row]))

    def test_rows_from_the_last_to_the_first(self):
        self.assertEqual(turned((3, [("swap", 0, 1), ("swap", 1, 2), ("add", 0, ("num", 1))])),
                         (3, [("take", 0, ("num", 1)), ("swap", 1, 2), ("swap", 0, 1)]))

    def test_goes_and_comes(self):
        take = ("take", 1, ("num", 1))
        self.assertEqual(turned(CODES["ahead"]), (2, [take, ("go", 0, 3, 3), take, ("come", 0, 3, 1), take]))
        self.assertEqual(turned(CODES["behind"]),
                         (2, [take, ("come", 0, 2, 3), ("take", 0, ("num", 1)), ("go", 0, 2, 1)]))
        self.assertEqual(turned(CODES["crossed"]),
                         (2, [("go", 1, 1, 2), ("go", 0, 1, 3), ("come", 1, 1, 0), ("come", 0, 1, 1)]))
        self.assertEqual(turned(CODES["next"]), CODES["next"])
        self.assertEqual(turned(CODES["next, behind"]), CODES["next, behind"])

    def test_no_rows(self):
        self.assertEqual(turned((3, [])), (3, []))
        self.assertEqual(turned((0, [])), (0, []))


class EachPlace(unittest.TestCase):
    def look(self, code, boxes, seen):
        """Compare steps of a code and of the turned one, both ways, at each place."""
        other = turned(code)
        for place in range(len(code[1]) + 1):
            far = len(code[1]) - place
            undone, done = back(code, place, boxes), forth(code, place, boxes)
            self.assertEqual(forth(other, far, boxes), mirrored(code, undone))
            self.assertEqual(back(other, far, boxes), mirrored(code, done))
            seen["done"] += (undone is not None) + (done is not None)
            seen["torn"] += (undone is None and place > 0) + (done is None and far > 0)

    def test_codes_by_hand(self):
        seen = {"done": 0, "torn": 0}
        for code in CODES.values():
            check_code(code)
            for first in (0, 1, 2, 3, 24, TOP - 1):
                for second in (0, 1, 5, TOP - 1):
                    self.look(code, [first, second, 9][:code[0]], seen)
        self.assertGreater(min(seen.values()), 20, seen)

    def test_many_codes(self):
        seen = {"done": 0, "torn": 0}
        for seed in range(300):
            code = random_code(seed)
            for again in range(5):
                self.look(code, random_boxes(5 * seed + again, code[0]), seen)
        self.assertGreater(min(seen.values()), 500, seen)

    def test_whole_runs(self):
        words = {"end": "begin", "torn": "torn", "tired": "tired"}
        for seed in range(200):
            code = random_code(seed)
            rows, boxes = len(code[1]), random_boxes(seed, code[0])
            word, place, left, steps = run_forth(turned(code), boxes, 50)
            self.assertEqual(run_back(code, boxes, rows, 50), (words[word], rows - place, left, steps))
            word, place, left, steps = run_forth(code, boxes, 50)
            self.assertEqual(run_back(turned(code), boxes, rows, 50), (words[word], rows - place, left, steps))

    def test_a_code_and_behind_it_the_turned_one_do_nothing(self):
        ends = 0
        for seed in range(200):
            code = random_code(seed)
            boxes = random_boxes(seed, code[0])
            word, place, left, steps = run_forth(code, boxes, 100)
            if word == "end":
                ends += 1
                there_and_back = joined([code, turned(code)])
                self.assertEqual(run_forth(there_and_back, boxes, 200), ("end", 2 * place, boxes, 2 * steps))
        self.assertGreater(ends, 20)


class Whole(unittest.TestCase):
    def each(self):
        return list(CODES.values()) + [random_code(seed) for seed in range(300)]

    def test_twice_it_is_the_code_itself(self):
        for code in self.each():
            self.assertEqual(turned(turned(code)), code)

    def test_it_is_let_by_and_has_the_same_size(self):
        for code in self.each():
            self.assertIsNone(check_code(turned(code)))
            self.assertEqual(turned(code)[0], code[0])
            self.assertEqual(len(turned(code)[1]), len(code[1]))

    def test_a_long_code(self):
        code = (3000, [("add", box, ("box", box + 1)) for box in range(2999)] * 7)
        check_code(turned(code))
        self.assertEqual(turned(turned(code)), code)

    def test_what_is_handed_in_stays(self):
        for code in self.each():
            before = copy.deepcopy(code)
            told = turned(code)
            self.assertEqual(code, before)
            self.assertEqual(turned(code), told)

    def test_what_is_told_is_the_asker_s_own(self):
        for code in ((2, [ADD, ("swap", 0, 1)]), (2, [("swap", 0, 1)]), (2, [])):
            before = copy.deepcopy(code)
            told = turned(code)
            self.assertEqual((type(told), type(told[1])), (tuple, list))
            kept = copy.deepcopy(told)
            told[1].append(ADD)
            self.assertEqual(code, before)
            self.assertEqual(turned(code), kept)
            code[1].append(ADD)
            self.assertEqual(told[1][:-1], kept[1])


if __name__ == "__main__":
    unittest.main()

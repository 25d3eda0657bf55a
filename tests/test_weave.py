import copy
import random
import unittest

from nolitter.codes import check_code
from nolitter.meaning import through
from nolitter.pieces import pieces, weight
from nolitter.rides import run_back, run_forth
from nolitter.turned import turned
from nolitter.weave import weave
from tests.samples import SIGNS, choose, good_program, is_row_of_code, random_state

BOXES = ("a", "b", "c")
NUMBERS = 2 ** 32


def edges(wide):
    """Values at the edges of what a box of the program holds, and amid."""
    top = 2 ** wide
    return sorted({0, 1, top // 2 - 1, top // 2, top // 3, top - 2, top - 1} & set(range(top)))


def asked(sign, first, second, wide):
    """What a sign is to make of two numbers, by other means than the program's."""
    if sign in "+-":
        whole = first + second if sign == "+" else first + 2 ** wide - second
        return whole - 2 ** wide if whole >= 2 ** wide else whole
    if sign in "<=":
        return int(first < second) if sign == "<" else int(first == second)
    told = 0
    for bit in range(wide):
        many = (first // 2 ** bit) % 2 + (second // 2 ** bit) % 2
        told += 2 ** bit * {"&": many == 2, "|": many > 0, "^": many == 1}[sign]
    return told


class Woven(unittest.TestCase):
    def weave(self, some, boxes, wide, places, fresh):
        """Weave pieces, and look at all that doesn't hang on values."""
        handed = (list(some), tuple(boxes), list(places))
        told = weave(handed[0], handed[1], wide, handed[2], fresh)
        self.assertEqual(handed, (list(some), tuple(boxes), list(places)))
        self.assertEqual([type(part) for part in told], [list, list, int, int])
        self.assertEqual(type(told), tuple)
        rows, told_places, told_fresh, steps = told
        self.assertTrue(all(is_row_of_code(row) for row in rows))
        self.assertIsNone(check_code((told_fresh, rows)))
        self.assertEqual(len(told_places), len(boxes))
        self.assertTrue(all(0 <= place < told_fresh for place in told_places))
        self.assertTrue(fresh <= told_fresh <= fresh + 20 * weight(some))
        self.assertLessEqual(len(rows), 300 * weight(some))
        self.assertEqual(weave(some, boxes, wide, places, fresh), told)
        return told

    def ride(self, told, places, fresh, state, expected, seed=0):
        """Run woven rows forth and back, and look at the boxes."""
        rows, told_places, told_fresh, steps = told
        chance = random.Random(seed)
        below = [chance.choice((0, 1, NUMBERS - 1, chance.randrange(NUMBERS))) for box in range(fresh)]
        for place, value in zip(places, state):
            below[place] = value
        start = below + [0] * (told_fresh - fresh)
        word, place, boxes, done = run_forth((told_fresh, rows), start, 10 ** 6)
        self.assertEqual((word, place, done), ("end", len(rows), steps), state)
        self.assertEqual(boxes[:fresh], below)
        self.assertEqual([boxes[place] for place in told_places], list(expected), state)
        self.assertEqual(run_back((told_fresh, rows), boxes, place, 10 ** 6), ("begin", 0, start, steps))

    def look(self, some, boxes, wide, places, fresh, states):
        """Weave pieces, and run them from states, by what the pieces mean."""
        told = self.weave(some, boxes, wide, places, fresh)
        for seed, state in enumerate(states):
            self.ride(told, places, fresh, state, through(some, boxes, wide, tuple(state)), seed)
        return told

    def states(self, wide, many):
        """All states of so many boxes at the edges, and some others."""
        chance = random.Random(wide)
        told = [[chance.randrange(2 ** wide) for box in range(many)] for count in range(4)]
        for value in edges(wide):
            told.append([value] * many)
            for other in edges(wide):
                told.append([value, other] + [chance.choice(edges(wide)) for box in range(many - 2)])
        return told


class EachRow(Woven):
    def test_signs_of_two_boxes(self):
        for wide in (1, 8, 16):
            for sign in SIGNS:
                told = self.weave([("op", "c", sign, "a", "b")], BOXES, wide, [0, 1, 2], 3)
                for first in edges(wide):
                    for second in edges(wide):
                        self.ride(told, [0, 1, 2], 3, [first, second, 1],
                                  [first, second, asked(sign, first, second, wide)])

    def test_signs_with_all_values(self):
        for wide in (1, 2, 3):
            for sign in SIGNS:
                told = self.weave([("op", "a", sign, "a", "b")], ("a", "b"), wide, [1, 0], 2)
                for first in range(2 ** wide):
                    for second in range(2 ** wide):
                        self.ride(told, [1, 0], 2, [first, second], [asked(sign, first, second, wide), second])

    def test_the_same_box_on_both_sides(self):
        for wide in (1, 8, 16):
            for sign in SIGNS:
                for target in ("a", "b"):
                    told = self.weave([("op", target, sign, "a", "a")], ("a", "b"), wide, [0, 1], 2)
                    for value in edges(wide):
                        made = asked(sign, value, value, wide)
                        self.ride(told, [0, 1], 2, [value, 1], [made, 1] if target == "a" else [value, made])

    def test_numbers_as_atoms(self):
        for wide in (1, 8, 16):
            for sign in SIGNS:
                for number in (0, 1, 2 ** wide - 1):
                    left = self.weave([("op", "a", sign, number, "a")], ("a",), wide, [0], 1)
                    right = self.weave([("op", "a", sign, "a", number)], ("a",), wide, [0], 1)
                    for value in edges(wide):
                        self.ride(left, [0], 1, [value], [asked(sign, number, value, wide)])
                        self.ride(right, [0], 1, [value], [asked(sign, value, number, wide)])
                    for other in edges(wide):
                        told = self.weave([("op", "a", sign, number, other)], ("a",), wide, [0], 1)
                        self.ride(told, [0], 1, [1], [asked(sign, number, other, wide)])

    def test_is(self):
        for wide in (1, 8, 16):
            top = 2 ** wide - 1
            for number in (0, 1, top):
                told = self.weave([("is", "b", number)], ("a", "b"), wide, [0, 1], 2)
                self.ride(told, [0, 1], 2, [top, 0], [top, number])
            for value in edges(wide):
                told = self.weave([("is", "b", "a")], ("a", "b"), wide, [0, 1], 2)
                self.ride(told, [0, 1], 2, [value, 0], [value, value])
                told = self.weave([("is", "a", "a")], ("a", "b"), wide, [0, 1], 2)
                self.ride(told, [0, 1], 2, [value, 0], [value, 0])

    def test_is_keeps_what_it_took(self):
        some = [("is", "b", "a"), ("op", "a", "+", "a", 1), ("is", "c", "b"), ("op", "b", "+", "b", 2)]
        told = self.weave(some, BOXES, 8, [0, 1, 2], 3)
        self.ride(told, [0, 1, 2], 3, [5, 8, 9], [6, 7, 5])
        self.ride(told, [0, 1, 2], 3, [255, 8, 9], [0, 1, 255])


class Chooses(Woven):
    YES = (("is", "b", 1), ("op", "c", "+", "c", "a"))
    NO = (("is", "c", 0),)

    def test_both_ways(self):
        for wide in (1, 8, 16):
            told = self.weave([choose("a", self.YES, self.NO)], BOXES, wide, [0, 1, 2], 3)
            for value in edges(wide):
                made = [value, 1, value] if value else [0, 0, 0]
                self.ride(told, [0, 1, 2], 3, [value, 0, 0], made)

    def test_empty_ways(self):
        for wide in (1, 8, 16):
            top = 2 ** wide - 1
            for some, made in (([choose("a")], {0: [0, 1, 1], top: [top, 1, 1]}),
                               ([choose("a", self.NO)], {0: [0, 1, 1], top: [top, 1, 0]}),
                               ([choose("a", (), self.NO)], {0: [0, 1, 0], top: [top, 1, 1]})):
                told = self.weave(some, BOXES, wide, [0, 1, 2], 3)
                for value in (0, top):
                    self.ride(told, [0, 1, 2], 3, [value, 1, 1], made[value])

    def test_numbers_are_asked(self):
        for number, made in ((0, [7, 7, 0]), (1, [7, 1, 14]), (255, [7, 1, 14])):
            told = self.weave([choose(number, self.YES, self.NO)], BOXES, 8, [0, 1, 2], 3)
            self.ride(told, [0, 1, 2], 3, [7, 7, 7], made)

    def test_what_is_asked_is_set_within(self):
        some = [choose("a", [("is", "a", 0), ("is", "b", "a")], [("is", "a", 9), ("op", "b", "-", "a", "b")])]
        told = self.weave(some, ("a", "b"), 8, [0, 1], 2)
        self.ride(told, [0, 1], 2, [4, 2], [0, 0])
        self.ride(told, [0, 1], 2, [0, 2], [9, 7])

    def test_ways_that_set_the_same(self):
        same = [("is", "a", "b")]
        told = self.weave([choose("c", same, same)], BOXES, 8, [0, 1, 2], 3)
        for value in (0, 5):
            self.ride(told, [0, 1, 2], 3, [1, 2, value], [2, 2, value])

    def test_ways_that_change_places(self):
        change = [("is", "c", "a"), ("is", "a", "b"), ("is", "b", "c"), ("is", "c", 0)]
        told = self.weave([choose("c", change)], BOXES, 8, [0, 1, 2], 3)
        self.ride(told, [0, 1, 2], 3, [1, 2, 3], [2, 1, 0])
        self.ride(told, [0, 1, 2], 3, [1, 2, 0], [1, 2, 0])

    def test_chooses_within_chooses(self):
        inner = choose("b", [("is", "c", 1)], [("is", "c", 2)])
        other = choose("b", [("is", "c", 3)], [choose("c", [("is", "c", 4)], [("is", "a", "c")])])
        told = self.weave([choose("a", [inner], [other])], BOXES, 8, [0, 1, 2], 3)
        for state, made in (([1, 1, 9], [1, 1, 1]), ([1, 0, 9], [1, 0, 2]), ([0, 1, 9], [0, 1, 3]),
                            ([0, 0, 9], [0, 0, 4]), ([0, 0, 0], [0, 0, 0])):
            self.ride(told, [0, 1, 2], 3, state, made)

    def test_five_deep_with_six_boxes(self):
        boxes = ("a", "b", "c", "d", "e", "f")
        rows = ()
        for depth in range(5):
            rows = (choose(boxes[depth], rows + (("op", "f", "+", "f", 2 ** depth), ("op", boxes[depth], "-", "f", 1)),
                           (("op", "f", "^", "f", boxes[depth + 1]),) + rows),)
        chance = random.Random(5)
        states = [[chance.choice((0, 0, 1, 255)) for name in boxes] for count in range(40)]
        self.look(list(rows), boxes, 8, [0, 1, 2, 3, 4, 5], 6, states)

    def test_all_six_boxes_are_set_by_each_way(self):
        boxes = ("a", "b", "c", "d", "e", "f")
        yes = [("op", name, "+", name, 1) for name in boxes]
        no = [("op", name, "-", name, 1) for name in boxes]
        told = self.weave([choose("f", yes, no)], boxes, 16, [0, 1, 2, 3, 4, 5], 6)
        self.ride(told, range(6), 6, [1, 2, 3, 4, 5, 6], [2, 3, 4, 5, 6, 7])
        self.ride(told, range(6), 6, [1, 2, 3, 4, 65535, 0], [0, 1, 2, 3, 65534, 65535])


class Places(Woven):
    SOME = [("op", "a", "+", "a", "b"), choose("a", [("op", "b", "<", "b", "c")], [("is", "c", "a")]),
            ("op", "c", "^", "c", "b")]

    def test_places_in_any_order_among_others(self):
        for places, fresh in (([0, 1, 2], 3), ([2, 0, 1], 3), ([5, 0, 3], 6), ([2, 9, 4], 30), ([17, 16, 15], 1000)):
            for wide in (1, 8, 16):
                self.look(self.SOME, BOXES, wide, places, fresh, self.states(wide, 3)[:20])

    def test_rows_don_t_hang_on_how_the_places_lie(self):
        told = weave(self.SOME, BOXES, 8, [0, 1, 2], 3)
        other = weave(self.SOME, BOXES, 8, [7, 5, 3], 40)
        self.assertEqual((len(told[0]), told[2] - 3, told[3]), (len(other[0]), other[2] - 40, other[3]))

    def test_the_same_place_for_boxes_whose_values_are_alike(self):
        for places in ([1, 1, 0], [0, 2, 2], [1, 1, 1], [2, 0, 2]):
            for wide in (1, 8, 16):
                states = []
                for value in edges(wide):
                    for other in edges(wide):
                        states.append([value if place == max(places) else other for place in places])
                self.look(self.SOME, BOXES, wide, places, 3, states)
                self.look([("is", "a", "b"), choose("a", [("is", "b", 0)])], BOXES, wide, places, 3, states)

    def test_told_places_are_handed_in_again(self):
        first = self.weave(self.SOME, BOXES, 8, [0, 1, 2], 3)
        second = self.weave([("op", "a", "-", "b", "c")], BOXES, 8, first[1], first[2])
        start = [200, 100, 7]
        boxes = run_forth((first[2], first[0]), start + [0] * (first[2] - 3), 10 ** 6)[2]
        boxes = run_forth((second[2], second[0]), boxes + [0] * (second[2] - first[2]), 10 ** 6)[2]
        made = through(self.SOME + [("op", "a", "-", "b", "c")], BOXES, 8, tuple(start))
        self.assertEqual([boxes[place] for place in second[1]], list(made))

    def test_none_at_all(self):
        for places in ([0, 1, 2], [2, 0, 1], [4, 1, 3]):
            rows, told_places, fresh, steps = self.weave([], BOXES, 8, places, 5)
            self.assertEqual((rows, fresh, steps), ([], 5, 0))
            self.ride((rows, told_places, fresh, steps), places, 5, [1, 2, 3], [1, 2, 3])


class Many(Woven):
    def test_several_one_behind_the_other(self):
        some = [("op", "a", sign, "a", "b") for sign in SIGNS] + [("op", "b", sign, "a", 1) for sign in SIGNS]
        for wide in (1, 8, 16):
            self.look(some, ("a", "b"), wide, [0, 1], 2, self.states(wide, 2))

    def test_many_programs(self):
        looked, chosen = 0, 0
        for seed in range(250):
            program = good_program(seed, 5, 3)
            some = pieces(program)
            if weight(some) > 200:
                continue
            looked += 1
            chosen += any(piece[0] == "choose" for piece in some)
            wide, boxes = program[:2]
            chance = random.Random(seed)
            places = chance.sample(range(12), len(boxes))
            states = [random_state(10 * seed + again, program) for again in range(4)]
            self.look(some, boxes, wide, places, 12 + seed, states)
        self.assertGreater(looked, 150)
        self.assertGreater(chosen, 80)

    def test_two_hundred_rows(self):
        some = [("op", "a", "^", "a", "b"), ("op", "b", "|", "b", 1), choose("a", [("op", "a", "-", "a", "b")])] * 50
        self.assertEqual(weight(some), 200)
        self.look(some, ("a", "b"), 16, [0, 1], 2, [[0, 0], [65535, 65535], [777, 65534]])

    def test_woven_back(self):
        rows, places, fresh, steps = weave(Places.SOME, BOXES, 8, [0, 1, 2], 3)
        start = [3, 250, 8] + [0] * (fresh - 3)
        boxes = run_forth((fresh, rows), start, 10 ** 6)[2]
        self.assertEqual(run_forth(turned((fresh, rows)), boxes, 10 ** 6), ("end", len(rows), start, steps))


class Handed(Woven):
    SOME = [("op", "a", "+", "a", 1), choose("a", [("is", "b", 2)])]

    def test_what_is_told_is_the_asker_s_own(self):
        some, places = copy.deepcopy(self.SOME), [0, 1]
        told = weave(some, ("a", "b"), 8, places, 2)
        before = copy.deepcopy(told)
        told[0].clear()
        told[1].append(7)
        self.assertEqual(weave(some, ("a", "b"), 8, places, 2), before)
        told = weave(some, ("a", "b"), 8, places, 2)
        some.clear()
        places[0] = 5
        self.assertEqual(told, before)

    def test_places_told_of_none_are_the_asker_s_own(self):
        places = [0, 1]
        weave([], ("a", "b"), 8, places, 2)[1].append(3)
        self.assertEqual(places, [0, 1])

    def test_boxes_may_be_a_list(self):
        self.assertEqual(weave(self.SOME, ["a", "b"], 8, [0, 1], 2), weave(self.SOME, ("a", "b"), 8, [0, 1], 2))


if __name__ == "__main__":
    unittest.main()

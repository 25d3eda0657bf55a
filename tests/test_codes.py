import copy
import unittest

from nolitter.codes import check_code, joined
from nolitter.errors import BadCode
from nolitter.rides import run_forth
from tests.samples import random_boxes, random_code

TOP = 2 ** 32
FINE = ("add", 0, ("num", 1))


def wrong(size, *rows):
    """Where a code is refused; None where it is let by."""
    try:
        told = check_code((size, list(rows)))
    except BadCode as error:
        return error.at
    assert told is None
    return None


class LetBy(unittest.TestCase):
    def test_no_rows(self):
        for size in (0, 1, 3000, 10 ** 30):
            self.assertIsNone(wrong(size))

    def test_each_kind_of_row_at_its_edges(self):
        self.assertIsNone(wrong(
            4, ("add", 3, ("box", 0)), ("add", 0, ("box", 3)), ("take", 0, ("num", TOP - 1)), ("take", 3, ("num", 0)),
            ("turn", 0, 0, ()), ("turn", 0, 31, ((3, 31),)), ("turn", 3, 31, ((0, 0), (0, 31))),
            ("turn", 1, 5, ((2, 7), (2, 7))), ("turn", 1, 5, ((2, 7), (3, 7))), ("swap", 0, 3), ("swap", 3, 0)))

    def test_goes_and_comes(self):
        self.assertIsNone(wrong(1, ("go", 0, 0, 1), ("come", 0, 0, 0)))
        self.assertIsNone(wrong(1, ("come", 0, 7, 1), ("go", 0, 7, 0)))
        self.assertIsNone(wrong(2, ("go", 1, TOP - 1, 2), FINE, ("come", 1, TOP - 1, 0)))
        self.assertIsNone(wrong(2, ("go", 0, 1, 2), ("go", 1, 1, 3), ("come", 0, 1, 0), ("come", 1, 1, 1)))

    def test_many_codes(self):
        for seed in range(300):
            size, rows = random_code(seed)
            self.assertIsNone(wrong(size, *rows))

    def test_a_long_code(self):
        self.assertIsNone(wrong(2, *[("add", 0, ("box", 1))] * 30000))
        self.assertEqual(wrong(2, *[("add", 0, ("box", 1))] * 30000, ("swap", 1, 1)), 30000)


class Refused(unittest.TestCase):
    def check_rows(self, size, *rows):
        """Each row is refused by itself, behind others, and ahead of another that is wrong."""
        bad = ("swap", 0, 0)
        for row in rows:
            self.assertEqual(wrong(size, row), 0, row)
            self.assertEqual(wrong(size, FINE, FINE, row, FINE), 2, row)
            self.assertEqual(wrong(size, FINE, row, bad), 1, row)

    def test_a_box_not_below_size(self):
        for far in (3, 4, 10 ** 40):
            self.check_rows(
                3, ("add", far, ("num", 1)), ("add", far, ("box", 1)), ("add", 1, ("box", far)),
                ("take", far, ("num", 1)), ("take", 1, ("box", far)), ("turn", far, 0, ()), ("turn", 0, 0, ((far, 0),)),
                ("turn", 0, 0, ((1, 0), (far, 0))), ("turn", 0, 0, ((far, 0), (1, 0))), ("swap", far, 0),
                ("swap", 0, far))
            self.assertEqual(wrong(3, ("go", far, 0, 1), ("come", far, 0, 0)), 0)
            self.assertEqual(wrong(3, ("come", far, 0, 1), ("go", far, 0, 0)), 0)
        self.assertEqual(wrong(0, FINE), 0)
        self.assertEqual(wrong(1, FINE, ("swap", 0, 1)), 1)

    def test_a_bit_above_31(self):
        for bit in (32, 33, 64, 10 ** 40):
            self.check_rows(3, ("turn", 0, bit, ()), ("turn", 0, bit, ((1, 0),)), ("turn", 0, 0, ((1, bit),)),
                            ("turn", 0, 0, ((1, 0), (2, bit))), ("turn", 0, 0, ((1, bit), (2, 0))))

    def test_a_number_that_no_box_holds(self):
        for number in (TOP, TOP + 1, 10 ** 40):
            self.check_rows(3, ("add", 0, ("num", number)), ("take", 0, ("num", number)))
            self.assertEqual(wrong(3, ("go", 0, number, 1), ("come", 0, number, 0)), 0)
            self.assertEqual(wrong(3, FINE, ("come", 0, number, 2), ("go", 0, number, 1)), 1)

    def test_a_row_that_reads_the_box_that_it_changes(self):
        self.check_rows(3, ("add", 1, ("box", 1)), ("take", 2, ("box", 2)), ("turn", 1, 0, ((1, 1),)),
                        ("turn", 1, 0, ((0, 1), (1, 1))), ("turn", 1, 0, ((1, 1), (0, 1))), ("swap", 2, 2))

    def test_a_number_like_the_box_is_no_fault(self):
        self.assertIsNone(wrong(3, ("add", 1, ("num", 1)), ("take", 2, ("num", 2)), ("turn", 1, 1, ((0, 1),))))
        self.assertIsNone(wrong(3, ("add", 1, ("num", 99)), ("turn", 1, 30, ((0, 30),))))

    def test_a_fellow_that_is_not_there(self):
        for far in (1, 2, 20000, 10 ** 40):
            self.assertEqual(wrong(1, ("go", 0, 0, far)), 0)
            self.assertEqual(wrong(1, ("come", 0, 0, far)), 0)
        self.assertEqual(wrong(1, ("go", 0, 0, 0)), 0)
        self.assertEqual(wrong(1, ("come", 0, 0, 0)), 0)
        self.assertEqual(wrong(1, FINE, ("go", 0, 0, 2)), 1)

    def test_a_fellow_that_is_wrong(self):
        go, come = ("go", 0, 1, 2), ("come", 0, 1, 0)
        for fellow in (("go", 0, 1, 0), ("come", 1, 1, 0), ("come", 0, 2, 0), ("come", 0, 1, 1), ("come", 0, 1, 2), FINE,
                       ("turn", 0, 1, ()), ("swap", 0, 1), ("add", 0, ("num", 0))):
            self.assertEqual(wrong(2, go, FINE, fellow), 0, fellow)
        # A come ahead of which stands a row that is fine by itself, but isn't its go.
        self.assertEqual(wrong(2, FINE, FINE, come), 2)
        self.assertEqual(wrong(2, ("go", 0, 1, 1), ("come", 0, 1, 0), come), 2)
        self.assertEqual(wrong(2, ("come", 0, 1, 1), ("go", 0, 1, 0), come), 2)
        for word, other in (("go", "come"), ("come", "go")):
            self.assertIsNone(wrong(2, FINE, (word, 0, 1, 2), (other, 0, 1, 1)))
            self.assertEqual(wrong(2, FINE, (word, 0, 1, 2), (word, 0, 1, 1)), 1)
            self.assertEqual(wrong(2, FINE, (word, 0, 1, 2), (other, 1, 1, 1)), 1)
            self.assertEqual(wrong(2, FINE, (word, 0, 1, 2), (other, 0, 0, 1)), 1)
            self.assertEqual(wrong(2, FINE, (word, 0, 1, 2), (other, 0, 1, 0)), 1)
            self.assertEqual(wrong(2, FINE, (word, 0, 1, 0)), 1)

    def test_two_that_point_at_one(self):
        self.assertEqual(wrong(1, ("go", 0, 0, 1), ("come", 0, 0, 0), ("go", 0, 0, 1)), 2)
        self.assertEqual(wrong(1, ("go", 0, 0, 2), ("go", 0, 0, 2), ("come", 0, 0, 1)), 0)

    def test_one_thing_changed_in_a_code(self):
        for seed in range(200):
            size, rows = random_code(seed)
            for at, row in enumerate(rows):
                if row[0] in ("go", "come"):
                    first = min(at, row[3])
                    for changed in ((row[0], row[1], row[2] + 1, row[3]), (row[0], row[1], row[2], row[3] + 1),
                                    (row[0], (row[1] + 1) % size, row[2], row[3]), FINE):
                        self.assertEqual(wrong(size, *rows[:at], changed, *rows[at + 1:]),
                                         first if changed != FINE else row[3])


class Joined(unittest.TestCase):
    def test_one_code(self):
        code = (3, [("go", 0, 1, 1), ("come", 0, 1, 0), FINE])
        self.assertEqual(joined([code]), code)

    def test_the_greatest_size(self):
        for sizes in ((1, 5, 3), (5, 1, 3), (3, 1, 5), (0, 0), (7,)):
            self.assertEqual(joined([(size, []) for size in sizes]), (max(sizes), []))

    def test_the_numbers_of_rows_are_greater_by_the_rows_ahead(self):
        pair = [("go", 0, 1, 2), ("turn", 1, 2, ((0, 2),)), ("come", 0, 1, 0)]
        loop = [("come", 2, 4, 1), ("go", 2, 4, 0)]
        plain = [("add", 0, ("num", 3)), ("take", 0, ("box", 1)), ("swap", 0, 1), ("turn", 1, 3, ((0, 3),))]
        self.assertEqual(joined([(2, pair), (2, plain), (0, []), (3, loop), (2, pair)]), (3, pair + plain + [
            ("come", 2, 4, 8), ("go", 2, 4, 7),
            ("go", 0, 1, 11), ("turn", 1, 2, ((0, 2),)), ("come", 0, 1, 9)]))

    def test_what_is_joined_is_let_by_and_runs_one_behind_the_other(self):
        ends = 0
        for seed in range(300):
            codes = [random_code(3 * seed + part) for part in range(1 + seed % 3)]
            whole = joined(codes)
            self.assertIsNone(check_code(whole))
            self.assertEqual(len(whole[1]), sum(len(rows) for size, rows in codes))
            start = random_boxes(seed, whole[0])
            boxes, steps, words = start, 0, []
            for size, rows in codes:
                word, place, boxes, more = run_forth((whole[0], rows), boxes, 500)
                steps += more
                words.append(word)
            if words == ["end"] * len(codes):
                ends += 1
                self.assertEqual(run_forth(whole, start, 5000), ("end", len(whole[1]), boxes, steps))
        self.assertGreater(ends, 30)


class Handed(unittest.TestCase):
    def test_what_is_handed_in_stays_and_what_is_told_is_new(self):
        codes = [random_code(seed) for seed in range(5)]
        before = copy.deepcopy(codes)
        whole = joined(codes)
        check_code(whole)
        self.assertEqual(codes, before)
        self.assertEqual(joined(codes), whole)
        whole[1].clear()
        self.assertEqual(codes, before)
        self.assertNotEqual(joined(codes), whole)

    def test_of_one_code_the_rows_are_new(self):
        code = (1, [FINE])
        joined([code])[1].append(FINE)
        self.assertEqual(code, (1, [FINE]))

    def test_check_changes_nothing_and_tells_twice_alike(self):
        rows = [FINE, ("swap", 0, 0)]
        self.assertEqual([wrong(1, *rows), wrong(1, *rows)], [1, 1])
        code = (1, rows)
        with self.assertRaises(BadCode):
            check_code(code)
        self.assertEqual(code, (1, [FINE, ("swap", 0, 0)]))


if __name__ == "__main__":
    unittest.main()

import copy
import random
import re
import unittest

from nolitter.codes import check_code
from nolitter.codetexts import read_code, show_code
from nolitter.cuts import costs
from nolitter.errors import BadCode, BadText
from nolitter.maker import made
from nolitter.planner import shown_plan
from tests.samples import choose, random_code

ROWS = (
    ("add 3 b5", ("add", 3, ("box", 5))),
    ("add 3 7", ("add", 3, ("num", 7))),
    ("add 0 b0", ("add", 0, ("box", 0))),
    ("add 0 0", ("add", 0, ("num", 0))),
    ("take 3 b5", ("take", 3, ("box", 5))),
    ("take 3 7", ("take", 3, ("num", 7))),
    ("take 3 4294967295", ("take", 3, ("num", 4294967295))),
    ("turn 3 0", ("turn", 3, 0, ())),
    ("turn 3 31", ("turn", 3, 31, ())),
    ("turn 3 0 b4 1", ("turn", 3, 0, ((4, 1),))),
    ("turn 3 0 b4 1 b5 31", ("turn", 3, 0, ((4, 1), (5, 31)))),
    ("turn 3 0 b4 1 b4 1", ("turn", 3, 0, ((4, 1), (4, 1)))),
    ("swap 3 4", ("swap", 3, 4)),
    ("swap 3 3", ("swap", 3, 3)),
    ("go 3 1 9", ("go", 3, 1, 9)),
    ("come 3 1 4", ("come", 3, 1, 4)),
    ("go 0 4294967295 0", ("go", 0, 4294967295, 0)),
    # Boxes and rows may have any number of ten figures.
    ("add 9999999999 b9999999999", ("add", 9999999999, ("box", 9999999999))),
    ("turn 9999999999 31 b9999999999 0", ("turn", 9999999999, 31, ((9999999999, 0),))),
    ("swap 9999999999 4294967296", ("swap", 9999999999, 4294967296)),
    ("come 9999999999 0 9999999999", ("come", 9999999999, 0, 9999999999)),
)
WRONG_ROWS = """add|add 3|add 3 |add  3 7|add 3  7| add 3 7|add 3 7 |add 3 7 8|add 3 b5 b6|add b3 5|add b3 b5|add 3 b|add 3 bb5
add 3 b05|add 03 5|add 3 05|add 3 00|add 3 b00|add -3 5|add 3 -5|add 3 +5|add 3 5b|add 3 c5|add 3 B5|Add 3 5|ADD 3 5|add 3 x|add x 3
add 3 4294967296|take 3 4294967296|add 3 9999999999|add 3 10000000000|add 10000000000 3|add 12345678901 3|add 3 b10000000000
add 3 b12345678901|add 3 00000000001|add 3 1.0|add 3 1_0|add 3 0x1|take|take 3|take 3 7 8|take b3 5|take 3 b|take 3 b05|takes 3 5
turn|turn 3|turn 3 32|turn 3 100|turn 3 b1|turn b3 0|turn 3 00|turn 3 01|turn 03 1|turn 3 0 b4|turn 3 0 4 1|turn 3 0 b4 b1
turn 3 0 b4 32|turn 3 0 b4 01|turn 3 0 b04 1|turn 3 0 b 1|turn 3 0 b4 1 b5|turn 3 0 b4 1 5 1|turn 3 0 b4 1 b5 32|turn 3 0 b4 1 b5 1 b6
turn 3 0 b4 1 b5 1 b6 1|turn 3 0 b4 32 b5 1|turn 3 0 b10000000000 1|turn 10000000000 0|turn 3 0 |turn 3 -1|turn 3 0 b4 1 |turn 3 0 b4  1
swap|swap 3|swap 3 4 5|swap b3 4|swap 3 b4|swap 3 04|swap 03 4|swap 3 10000000000|swap  3 4|swap 3 4 |swap 3 x
go|go 3|go 3 1|go 3 1 9 9|go b3 1 9|go 3 b1 9|go 3 1 b9|go 3 4294967296 9|go 3 1 09|go 3 01 9|go 03 1 9|go 3 1 10000000000|go 3  1 9
come|come 3|come 3 1|come 3 1 4 4|come b3 1 4|come 3 b1 4|come 3 1 b4|come 3 4294967296 4|come 3 1 04|come 3 -1 4|come 3 1 4 |comes 3 1 4
size 3|size|b5| |  |3|stay|go 3 1 9;|add 3 7\t|add\t3 7|# add 3 7""".replace("\n", "|").replace("\\t", "\t").split("|")
WRONG_SIZES = ["", " ", "size", "size ", "size  3", " size 3", "size 3 ", "size 3 3", "size x", "size b3", "size -1", "size 03",
               "size 00", "size 10000000000", "size 12345678901", "sizes 3", "Size 3", "3", "add 3 7", "size 3.0", "size+3"]


class Shown(unittest.TestCase):
    def test_each_kind_of_row(self):
        for text, row in ROWS:
            self.assertEqual(show_code((6, [row])), "size 6\n" + text)
        self.assertEqual(show_code((10, [row for text, row in ROWS])), "\n".join(["size 10"] + [text for text, row in ROWS]))

    def test_no_rows(self):
        for size in (0, 1, 3, 3000, 9999999999):
            self.assertEqual(show_code((size, [])), f"size {size}")

    def test_what_is_handed_in_stays(self):
        code = (6, [row for text, row in ROWS])
        before = copy.deepcopy(code)
        show_code(code)
        self.assertEqual(code, before)


class Read(unittest.TestCase):
    def refused(self, text, at):
        with self.assertRaises(BadText, msg=text) as caught:
            read_code(text)
        self.assertEqual(caught.exception.at, at, text)

    def test_each_kind_of_row(self):
        for text, row in ROWS:
            code = read_code("size 6\n" + text)
            self.assertEqual(code, (6, [row]))
            self.assertEqual((type(code), type(code[0]), type(code[1]), type(code[1][0])), (tuple, int, list, tuple))

    def test_kinds_of_conds(self):
        conds = read_code("size 6\nturn 3 0 b4 1 b5 31")[1][0][3]
        self.assertEqual([type(conds)] + [type(cond) for cond in conds], [tuple] * 3)

    def test_no_rows(self):
        self.assertEqual(read_code("size 3"), (3, []))
        self.assertEqual(read_code("size 0"), (0, []))
        self.assertEqual(read_code("size 9999999999"), (9999999999, []))

    def test_codes_that_are_not_let_by(self):
        code = read_code("size 1\nswap 3 3")
        self.assertEqual(code, (1, [("swap", 3, 3)]))
        with self.assertRaises(BadCode):
            check_code(code)

    def test_what_is_shown_is_read(self):
        codes = [random_code(seed) for seed in range(200)]
        program = (8, ("a", "b"), (("op", "a", "+", "a", 3), choose("a", [("op", "b", "=", "a", "b")])))
        codes.append(made(program, [1, 1], 2, shown_plan(costs(program, [1, 1]), 2)))
        for code in codes:
            self.assertEqual(read_code(show_code(code)), code)

    def test_what_is_read_is_shown(self):
        for text in ["size 0", "size 7\n" + "\n".join(text for text, row in ROWS)]:
            self.assertEqual(show_code(read_code(text)), text)

    def test_wrong_rows(self):
        self.assertGreater(len(WRONG_ROWS), 120)
        for wrong in WRONG_ROWS + [""]:
            self.refused("size 6\n" + wrong, 1)
            self.refused("size 6\nswap 0 1\n" + wrong, 2)
            self.refused("size 6\n" + wrong + "\nswap 0 1", 1)
            self.refused("size 6\nswap 0 1\n" + wrong + "\nswap\n", 2)

    def test_wrong_sizes(self):
        for wrong in WRONG_SIZES:
            self.refused(wrong, 0)
            self.refused(wrong + "\nswap 0 1", 0)
            self.refused(wrong + "\nswap", 0)

    def test_line_feeds(self):
        self.refused("", 0)
        self.refused("\n", 0)
        self.refused("\nsize 3", 0)
        self.refused("size 3\n", 1)
        self.refused("size 3\nswap 0 1\n", 2)
        self.refused("size 3\n\nswap 0 1", 1)

    def test_long_texts(self):
        text = "\n".join(["size 9"] + ["add 1 b2"] * 2000)
        self.assertEqual(len(read_code(text)[1]), 2000)
        self.refused(text + "\nadd", 2001)
        self.refused("size " + "9" * 19000, 0)
        self.refused("size 3\nadd 1 " + "1" * 19000, 1)

    def test_changed_texts_against_another_reader(self):
        let_by = 0
        for seed in range(3000):
            chance = random.Random(seed)
            text = show_code(random_code(seed, 4))
            for again in range(chance.randrange(1, 3)):
                at = chance.randrange(len(text) + 1)
                text = text[:at] + chance.choice(" b0123\n9s") * chance.randrange(2) + text[at + chance.randrange(3):]
            wrong = self.first_wrong(text)
            if wrong is None:
                self.assertEqual(show_code(read_code(text)), text)
                let_by += 1
            else:
                self.refused(text, wrong)
        self.assertGreater(let_by, 300)

    def first_wrong(self, text):
        """The number of the first wrong row, found by patterns."""
        some, bit = r"(0|[1-9]\d{0,9})", r"(\d|[12]\d|3[01])"
        forms = [rf"(add|take) {some} b{some}", rf"(add|take) {some} (?P<n>{some})", rf"turn {some} {bit}( b{some} {bit}){{0,2}}",
                 rf"swap {some} {some}", rf"(go|come) {some} (?P<n>{some}) {some}"]
        for at, row in enumerate(text.split("\n")):
            found = [re.fullmatch(form, row) for form in (forms if at else [f"size {some}"])]
            kept = [match for match in found if match and int(match.groupdict().get("n") or 0) < 2 ** 32]
            if not kept:
                return at
        return None


if __name__ == "__main__":
    unittest.main()

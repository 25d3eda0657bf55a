import random
import re
import unittest

from nolitter.errors import BadText, LitterError
from nolitter.plain import check
from nolitter.texts import read, show
from tests.samples import SIGNS, WORDS, any_program, choose, good_program, times

NAME = "(?!(?:wide|boxes|choose|else|end|times)(?: |$))[a-z]{1,8}"
FIGURES = "(?:0|[1-9][0-9]{0,3}|[1-5][0-9]{4}|6[0-4][0-9]{3}|65[0-4][0-9]{2}|655[0-2][0-9]|6553[0-5])"
ATOM = f"(?:{NAME}|{FIGURES})"
LINES = {
    "wide": "wide (?:[1-9]|1[0-6])",
    "boxes": f"boxes(?: {NAME}){{1,6}}",
    "set": f"{NAME} = {ATOM}(?: [-+&|^<=] {ATOM})?",
    "choose": f"choose {ATOM}",
    "times": "times (?:[0-9]|1[0-9]|20)",
    "else": "else",
    "end": "end",
}


def kind_of(line):
    kinds = [kind for kind, form in LINES.items() if re.fullmatch(form, line)]
    return kinds[0] if kinds else None


def wrong_row(text):
    """Where a text can be no program's any more, found by other means than the program's; None where it is one."""
    lines = text.split("\n")
    opened = []
    for at, line in enumerate(lines):
        kind = kind_of(line)
        if at < 2:
            fits = kind == ("wide", "boxes")[at]
        elif kind in ("choose", "times"):
            opened.append(kind)
            fits = True
        elif kind == "else":
            fits = bool(opened) and opened.pop() == "choose"
            opened.append("else")
        elif kind == "end":
            fits = bool(opened) and opened.pop() != "choose"
        else:
            fits = kind == "set"
        if not fits:
            return at
    return len(lines) if opened or len(lines) < 2 else None


def refused_at(text):
    try:
        read(text)
    except BadText as error:
        return error.at
    return None


EXAMPLE = (8, ("a", "b"), (
    ("is", "a", 0),
    ("op", "b", "+", "a", 255),
    choose("b", [("is", "a", "b")], [times(20, ("op", "a", "-", 1, "a")), ("is", "b", 7)]),
    times(0),
))
EXAMPLE_TEXT = """wide 8
boxes a b
a = 0
b = a + 255
choose b
a = b
else
times 20
a = 1 - a
end
b = 7
end
times 0
end"""


class Written(unittest.TestCase):
    def test_an_example(self):
        self.assertEqual(show(EXAMPLE), EXAMPLE_TEXT)
        self.assertEqual(read(EXAMPLE_TEXT), EXAMPLE)

    def test_no_rows(self):
        self.assertEqual(show((1, ("a",), ())), "wide 1\nboxes a")
        self.assertEqual(read("wide 1\nboxes a"), (1, ("a",), ()))

    def test_the_edges_of_numbers_and_names(self):
        boxes = ("a", "abcdefgh", "ends", "wid", "zz", "tim")
        rows = (("is", "zz", 65535), ("is", "a", 10), times(20), times(19), times(0), choose(0), choose(65535),
                choose("wid"))
        for wide in range(1, 17):
            program = (wide, boxes, rows)
            text = show(program)
            self.assertTrue(text.startswith(f"wide {wide}\nboxes a abcdefgh ends wid zz tim\nzz = 65535\na = 10\n"))
            self.assertEqual(read(text), program)

    def test_each_sign(self):
        for sign in SIGNS:
            program = (16, ("x",), (("op", "x", sign, "x", 12), ("op", "x", sign, 0, "x")))
            self.assertEqual(show(program), f"wide 16\nboxes x\nx = x {sign} 12\nx = 0 {sign} x")
            self.assertEqual(read(show(program)), program)

    def test_rows_within_rows(self):
        row = ("is", "a", 1)
        for depth in range(6):
            program = (1, ("a",), (row, ("is", "a", 0)))
            self.assertEqual(read(show(program)), program)
            row = choose("a", [row], [times(2, row)]) if depth % 2 else times(depth, row, row)

    def test_read_of_show_tells_the_program(self):
        refused = 0
        for seed in range(400):
            program = any_program(seed) if seed % 2 else good_program(seed, 5, 20)
            self.assertEqual(read(show(program)), program)
            self.assertIsNone(wrong_row(show(program)))
            try:
                check(program)
            except LitterError:
                refused += 1
        self.assertGreater(refused, 100)

    def test_programs_that_check_refuses(self):
        for program in ((1, ("a", "a"), (("is", "a", 1),)), (1, ("a",), (("is", "q", "r"),)),
                        (1, ("a",), (("is", "a", 65535),))):
            with self.assertRaises(LitterError):
                check(program)
            self.assertEqual(read(show(program)), program)

    def test_what_is_read_is_made_of_tuples(self):
        program = read(EXAMPLE_TEXT)
        hash(program)
        self.assertIs(type(program), tuple)
        self.assertIs(type(program[0]), int)

    def test_told_twice_alike(self):
        self.assertEqual(show(EXAMPLE), show(EXAMPLE))
        self.assertEqual(read(EXAMPLE_TEXT), read(EXAMPLE_TEXT))
        self.assertEqual([refused_at("wide 8\nboxes a\nend")] * 2, [2, refused_at("wide 8\nboxes a\nend")])


class HeadRefused(unittest.TestCase):
    def test_the_text_without_signs(self):
        self.assertEqual(refused_at(""), 0)

    def test_the_first_row(self):
        for line in ("", " ", "wide", "wide ", "wide 0", "wide 17", "wide 08", "wide +8", "wide -8", "wide 8 ",
                     " wide 8", "wide  8", "wide 8 8", "wide a", "Wide 8", "width 8", "8 wide", "wide 8.", "wide 1_0",
                     "wide 20000", "boxes a", "a = 1", "end", "wide\t8", "wide 8\r", "wide " + "1" * 6000):
            self.assertEqual(refused_at(line), 0, line)
            self.assertEqual(refused_at(line + "\nboxes a"), 0, line)
            self.assertEqual(refused_at(line + "\nboxes"), 0, line)

    def test_the_second_row(self):
        for line in ("", "boxes", "boxes ", "boxes  a", "boxes a ", " boxes a", "boxes a  b", "boxes A", "boxes a1",
                     "boxes abcdefghi", "boxes a b c d e f g", "boxes 1", "boxes a,b", "box a", "a b", "Boxes a",
                     "wide 8", "a = 1", "end", "boxes =") + tuple("boxes a " + word for word in WORDS):
            self.assertEqual(refused_at("wide 8\n" + line), 1, line)
            self.assertEqual(refused_at("wide 8\n" + line + "\nend"), 1, line)

    def test_the_second_row_lacks(self):
        self.assertEqual(refused_at("wide 8"), 1)

    def test_six_boxes_are_let_by(self):
        self.assertEqual(read("wide 8\nboxes a b c d e f"), (8, ("a", "b", "c", "d", "e", "f"), ()))


class RowsRefused(unittest.TestCase):
    def wrong(self, *lines):
        """Where it is refused, counted from the first row of the program's rows."""
        at = refused_at("\n".join(("wide 8", "boxes a b") + lines))
        return None if at is None else at - 2

    def test_rows_that_are_none(self):
        for line in ("", " ", "a", "a =", "a = ", "a = b ", " a = b", "a  = b", "a =  b", "a = b c", "a = b +",
                     "a = b + ", "a = b + c d", "a = b + c + d", "a = b  + c", "a = b +  c", "a b = c", "= a b", "a == b",
                     "a=b", "a=b + c", "a = b * c", "a = b ++ c", "a = b +c", "a = b+ c", "a = b +- c", "a = + b c",
                     "a = b c +", "a + b = c", "a = b  c", "1 = a", "a < b", "A = b", "a = B", "abcdefghi = 1",
                     "a = abcdefghi", "a := b", "a = -b", "a = b / c", "a = b > c", "a = b = = c", "a = b  =",
                     "Choose a", "choose", "choose ", "choose a ", " choose a", "choose  a", "choose a b", "choose A",
                     "choose 65536", "choose 01", "choose = 1", "times", "times ", "times 21", "times 05", "times a",
                     "times -1", "times +1", "times 1 1", "times  1", "times 1 ", "times 100", "times = 1",
                     "else ", " else", "Else", "else else", "end ", " end", "End", "end end", "ends",
                     "wide 8", "boxes a", "a\t= b", "a = b\r"):
            for ahead in ((), ("a = 1",), ("times 2",), ("choose a", "else")):
                self.assertEqual(self.wrong(*ahead, line), len(ahead), line)
                self.assertEqual(self.wrong(*ahead, line, "end"), len(ahead), line)

    def test_numbers_that_are_none(self):
        for number in ("65536", "99999", "100000", "00", "01", "007", "-1", "+1", "1.", "1.0", "0x1", "1_0", "1e3", "-0",
                       "065535", "9" * 5000, "\u0661", "\u00b2"):
            for form in ("a = {}", "a = {} + b", "a = b + {}", "choose {}"):
                self.assertEqual(self.wrong("a = 1", form.format(number)), 1, (form, number))

    def test_the_six_words_are_no_boxes(self):
        for word in WORDS:
            for form in ("{} = 1", "a = {}", "a = {} + b", "a = b + {}", "choose {}"):
                self.assertEqual(self.wrong(form.format(word)), 0, (form, word))

    def test_else_where_it_may_not_stand(self):
        self.assertEqual(self.wrong("else"), 0)
        self.assertEqual(self.wrong("a = 1", "else", "end"), 1)
        self.assertEqual(self.wrong("times 2", "else", "end"), 1)
        self.assertEqual(self.wrong("choose a", "else", "else", "end"), 2)
        self.assertEqual(self.wrong("choose a", "else", "a = 1", "else", "end"), 3)
        self.assertEqual(self.wrong("choose a", "times 2", "else", "end", "end"), 2)
        self.assertEqual(self.wrong("choose a", "else", "end", "else", "end"), 3)
        self.assertEqual(self.wrong("choose a", "choose b", "else", "end", "else", "end", "else"), 6)

    def test_end_where_it_may_not_stand(self):
        self.assertEqual(self.wrong("end"), 0)
        self.assertEqual(self.wrong("choose a", "end"), 1)
        self.assertEqual(self.wrong("choose a", "a = 1", "end"), 2)
        self.assertEqual(self.wrong("times 1", "end", "end"), 2)
        self.assertEqual(self.wrong("choose a", "else", "end", "end"), 3)
        self.assertEqual(self.wrong("choose a", "times 1", "end", "end"), 3)

    def test_what_lacks_at_the_end(self):
        self.assertEqual(self.wrong("choose a"), 1)
        self.assertEqual(self.wrong("choose a", "else"), 2)
        self.assertEqual(self.wrong("choose a", "a = 1", "else", "a = 2"), 4)
        self.assertEqual(self.wrong("times 0"), 1)
        self.assertEqual(self.wrong("times 0", "choose a", "else", "end"), 4)
        self.assertEqual(self.wrong("a = 1", "times 2", "times 3", "end"), 4)

    def test_a_line_feed_at_the_end(self):
        self.assertEqual(self.wrong(""), 0)
        self.assertEqual(self.wrong("a = 1", ""), 1)
        self.assertEqual(self.wrong("times 2", "end", ""), 2)
        self.assertEqual(refused_at("wide 8\n"), 1)
        self.assertEqual(refused_at("\nwide 8\nboxes a"), 0)
        self.assertEqual(refused_at("wide 8\n\nboxes a"), 1)

    def test_the_first_wrong_row_is_told(self):
        self.assertEqual(self.wrong("a = 1", "a = ?", "b = ?", "else"), 1)
        self.assertEqual(self.wrong("end", "times 2"), 0)
        self.assertEqual(self.wrong("times 2", "a ="), 1)


def changed(chance, text):
    """A text with one thing changed."""
    lines = text.split("\n")
    at, other = chance.randrange(len(lines)), chance.randrange(len(lines))
    words = lines[at].split(" ")
    spot = chance.randrange(len(words))
    fresh = ("else", "end", "times 3", "choose b", "a = b", "wide 8", "boxes a", "", "times 21", "a = 65536", "a = b & 3")
    odd = ("", "a", "0", "00", "-1", "65536", "21", "end", "=", "+", "abcdefghi", "A", "?", "choose", "times")
    kind = chance.randrange(9)
    if kind == 0:
        lines = lines[:at] + lines[at + 1:]
    elif kind == 1:
        lines.insert(at, lines[at])
    elif kind == 2:
        lines[at], lines[other] = lines[other], lines[at]
    elif kind == 3:
        lines.insert(at, chance.choice(fresh))
    elif kind == 4:
        lines[at] = " ".join(words[:spot] + words[spot + 1:])
    elif kind == 5:
        lines[at] = " ".join(words[:spot] + [chance.choice(odd)] + words[spot:])
    elif kind == 6:
        lines[at] = " ".join(words[:spot] + [chance.choice(odd)] + words[spot + 1:])
    elif kind == 7:
        lines[at] = " ".join(words[:spot] + words[spot + 1:] + [words[spot]])
    else:
        lines = lines[:at]
    return "\n".join(lines)


class Changed(unittest.TestCase):
    def test_it_is_refused_or_is_the_text_of_what_is_read(self):
        read_still = 0
        for seed in range(4000):
            chance = random.Random(seed)
            text = changed(chance, show(any_program(seed % 250)))
            expected = wrong_row(text)
            self.assertEqual(refused_at(text), expected, text)
            if expected is None:
                read_still += 1
                self.assertEqual(show(read(text)), text)
        self.assertGreater(read_still, 400)
        self.assertLess(read_still, 3600)


if __name__ == "__main__":
    unittest.main()

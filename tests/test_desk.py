import unittest

from nolitter.cuts import costs, even
from nolitter.desk import Desk, there_and_back
from nolitter.errors import BadCuts, BadPlan, BadText, LitterError, NoBox, NoRow, TooWide, TwiceNamed
from nolitter.maker import made, steps
from nolitter.meaning import run
from nolitter.pieces import pieces, weight
from nolitter.planner import shown_plan
from nolitter.plans import checked, work
from nolitter.plantexts import read_plan
from nolitter.table import reached
from nolitter.texts import read, show
from tests.samples import good_program, random_state

# Eight pieces: a sum, then three times a difference and a choose, then a box that becomes another.
TEXT = "wide 8;boxes a b;a = a + b;times 3;b = b - 1;choose b;a = a ^ 5;else;end;end;b = a"
OTHER = "wide 4;boxes x;x = x + 1;x = x + 1"
NONE = "wide 8;boxes a"
ROWS = ("run 1 2", "pieces", "costs 2", "least 2 2", "plan 2 2", "ride 2 2 1 2", "try 2 2 +1 +2 -1", "try 2 2 ")


def desk_with(text=TEXT):
    desk = Desk()
    desk.say("keep " + text)
    return desk


def program_of(text):
    return read(text.replace(";", "\n"))


class Said(unittest.TestCase):
    def refused(self, desk, row, error, at=None):
        with self.assertRaises(error, msg=row) as caught:
            desk.say(row)
        self.assertIs(type(caught.exception), error)
        if at is not None:
            self.assertEqual(caught.exception.at, at, row)


class Answers(Said):
    def test_keep(self):
        for text in (TEXT, OTHER, NONE):
            self.assertEqual(Desk().say("keep " + text), "ok")

    def test_run(self):
        desk = desk_with()
        self.assertEqual(desk.say("run 250 10"), "1 1")
        self.assertEqual(desk.say("run 0 0"), "5 5")
        self.assertEqual(desk.say("run 7 2"), "9 9")
        self.assertEqual(desk_with(OTHER).say("run 15"), "1")
        self.assertEqual(desk_with(NONE).say("run 77"), "77")
        self.assertEqual(desk_with("wide 16;boxes a b c;c = a - b").say("run 0 1 0"), "0 1 65535")

    def test_pieces(self):
        self.assertEqual(desk_with().say("pieces"), "8")
        self.assertEqual(desk_with(OTHER).say("pieces"), "2")
        self.assertEqual(desk_with(NONE).say("pieces"), "0")
        self.assertEqual(desk_with(NONE + ";times 0;a = 1;end").say("pieces"), "0")

    def test_costs(self):
        # A number and a sum take five rows, forth and back, and one row carries the box over.
        desk = desk_with(OTHER)
        self.assertEqual(desk.say("costs 1"), "21")
        self.assertEqual(desk.say("costs 2"), "11 11")
        for parts in range(1, 9):
            expected = costs(program_of(TEXT), even(8, parts))
            self.assertEqual(desk_with().say(f"costs {parts}"), " ".join(str(cost) for cost in expected))

    def test_least(self):
        desk = desk_with(OTHER)
        for row, told in (("least 1 0", "none"), ("least 1 1", "42"), ("least 1 8", "42"), ("least 2 0", "none"),
                          ("least 2 1", "none"), ("least 2 2", "44"), ("least 2 8", "44")):
            self.assertEqual(desk.say(row), told)

    def test_plan(self):
        desk = desk_with(OTHER)
        for row, told in (("plan 1 0", "none"), ("plan 1 1", "+1 ! -1"), ("plan 2 1", "none"), ("plan 2 2", "+1 +2 ! -2 -1")):
            self.assertEqual(desk.say(row), told)

    def test_ride(self):
        desk = desk_with(OTHER)
        for row, told in (("ride 1 0 3", "none"), ("ride 1 1 3", "5 in 43"), ("ride 1 8 15", "1 in 43"), ("ride 2 1 3", "none"),
                          ("ride 2 2 3", "5 in 45"), ("ride 2 2 14", "0 in 45")):
            self.assertEqual(desk.say(row), told)
        self.assertEqual(desk_with("wide 8;boxes a b;a = b").say("ride 1 1 3 255"), "255 255 in 6")

    def test_try(self):
        desk = desk_with()
        for row, told in (("try 1 1 +1", "left"), ("try 1 1 +1 ! -1", "shown"), ("try 2 2 +1 +2 -1", "left"),
                          ("try 2 2 +1 +2 ! -2 -1", "shown"), ("try 3 2 +1 +2 -1 +3 ! -3 +1 -2 -1", "shown"),
                          ("try 8 8 +1 -1 +1 +2 +3 +4 +5 +6 +7 +8 ! -8 -7 -6 -5 -4 -3 -2 -1", "shown")):
            self.assertEqual(desk.say(row), told)

    def test_all_of_many_programs(self):
        looked = 0
        for seed in range(60):
            program = good_program(seed, 3, 2)
            many = len(pieces(program))
            if 0 < weight(pieces(program)) <= 40:
                desk = desk_with(show(program).replace("\n", ";"))
                numbers = random_state(seed, program)
                self.look(desk, program, numbers, 1 + seed % min(many, 6), seed % 5)
                looked += 1
        self.assertGreater(looked, 35)

    def look(self, desk, program, numbers, parts, spare):
        """What a desk says is what the functions tell."""
        in_words = " ".join(str(number) for number in numbers)
        answer = " ".join(str(number) for number in run(program, numbers))
        cuts = even(len(pieces(program)), parts)
        prices = costs(program, cuts)
        least = reached(prices, spare)
        self.assertEqual(desk.say("run " + in_words), answer)
        self.assertEqual(desk.say("pieces"), str(len(pieces(program))))
        self.assertEqual(desk.say(f"costs {parts}"), " ".join(str(cost) for cost in prices))
        if least is None:
            for row in (f"least {parts} {spare}", f"plan {parts} {spare}", f"ride {parts} {spare} {in_words}"):
                self.assertEqual(desk.say(row), "none")
            return
        self.assertEqual(desk.say(f"least {parts} {spare}"), str(2 * least))
        text = desk.say(f"plan {parts} {spare}")
        plan = read_plan(text)
        self.assertEqual((checked(plan, parts, spare), work(plan, prices)), ("shown", 2 * least))
        self.assertEqual(desk.say(f"try {parts} {spare} {text}"), "shown")
        told = 2 * least + len(numbers)
        self.assertEqual(desk.say(f"ride {parts} {spare} {in_words}"), f"{answer} in {told}")

    def test_the_same_question_has_the_same_answer(self):
        desk = desk_with()
        for row in ROWS[:-1]:
            self.assertEqual(desk.say(row), desk.say(row))
            self.assertIs(type(desk.say(row)), str)


class There(unittest.TestCase):
    def test_forth_and_back(self):
        program = program_of(TEXT)
        cuts = even(8, 3)
        plan = shown_plan(costs(program, cuts), 2)
        code, most = made(program, cuts, 2, plan), steps(program, cuts, 2, plan)
        begin = [5, 1] + [0] * (code[0] - 2)
        forth, back = there_and_back(code, [5, 1], most)
        self.assertEqual((forth[0], forth[1], forth[3]), ("end", len(code[1]), most))
        self.assertEqual(back, ("begin", 0, begin, most))


class NoRows(Said):
    def test_what_is_none_of_the_rows(self):
        desk = desk_with()
        for row in ("", " ", "  ", "walk", "keep", "Keep " + TEXT, " keep " + TEXT, "keeps " + TEXT, "keep" + TEXT, "RUN 1 2",
                    "runs 1 2", "piece", "pieces ", " pieces", "pieces 1", "cost 1", "least", "plan", "ride", "try", "run",
                    "costs", "!", "+1", "ok", "none", "run 1 2;", "pieces;"):
            self.refused(desk, row, NoRow)

    def test_numbers_of_a_run(self):
        desk = desk_with()
        for numbers in ("", "1", "1 2 3", " 1 2", "1  2", "1 2 ", "01 2", "1 02", "00 0", "256 0", "0 256", "99999 0", "100000 0",
                        "0 4294967296", "-1 0", "+1 0", "a b", "a 1", "1 b", "1.0 2", "1_0 2", "1 2 +", "1;2"):
            self.refused(desk, "run " + numbers, NoRow)
            self.refused(desk, "ride 2 2 " + numbers, NoRow)
        self.refused(desk, "run", NoRow)
        self.refused(desk, "ride 2 2", NoRow)

    def test_numbers_just_below_what_boxes_hold(self):
        for wide in range(1, 17):
            desk = desk_with(f"wide {wide};boxes a;a = a")
            top = 2 ** wide
            self.assertEqual(desk.say(f"run {top - 1}"), str(top - 1))
            self.assertEqual(desk.say(f"ride 1 1 {top - 1}"), f"{top - 1} in 3")
            self.refused(desk, f"run {top}", NoRow)
            self.refused(desk, f"ride 1 1 {top}", NoRow)
            self.refused(desk, f"run 0{top - 1}", NoRow)

    def test_parts_and_spare(self):
        desk = desk_with()
        for parts in ("25", "26", "99", "100", "024", "01", "00", "-1", "+1", "x", "", "1.", "1_0", "٣"):
            for row in ("costs {}", "least {} 2", "plan {} 2", "ride {} 2 1 2", "try {} 2 +1", "try {} 2 "):
                self.refused(desk, row.format(parts), NoRow)
        for spare in ("9", "10", "08", "00", "99", "100", "-1", "+1", "x", "", "²"):
            for row in ("least 2 {}", "plan 2 {}", "ride 2 {} 1 2", "try 2 {} +1", "try 2 {} "):
                self.refused(desk, row.format(spare), NoRow)

    def test_words_missing_or_too_many(self):
        desk = desk_with()
        for row in ("costs", "costs ", "costs 2 ", "costs  2", "costs 2 2", "least", "least 2", "least 2 ", "least 2  2",
                    "least 2 2 ", "least 2 2 2", "plan", "plan 2", "plan 2 2 ", "plan  2 2", "plan 2 2 +1", "ride", "ride 2",
                    "ride 2 2", "ride 2 2 ", "ride  2 2 1 2", "ride 2 2 1 2 ", "try", "try 2", "try 2 2", "try 2 ", "try  2 2 +1",
                    "try 2  2 +1", " try 2 2 +1"):
            self.refused(desk, row, NoRow)

    def test_any_but_keep_while_no_program_is_kept(self):
        desk = Desk()
        for row in ROWS + ("costs 0", "try 2 2 x", "keep", ""):
            self.refused(desk, row, NoRow)
        self.refused(desk, "keep wide 17;boxes a", BadText, 0)
        for row in ROWS:
            self.refused(desk, row, NoRow)
        self.assertEqual(desk.say("keep " + TEXT), "ok")
        self.assertEqual(desk.say("pieces"), "8")


class OtherRefusals(Said):
    def test_cuts(self):
        desk = desk_with()
        for parts in ("0", "9", "10", "24"):
            for row in ("costs {}", "least {} 2", "plan {} 2", "ride {} 2 1 2", "try {} 2 +1", "try {} 2 ", "try {} 2 x"):
                self.refused(desk, row.format(parts), BadCuts)

    def test_a_program_without_pieces_has_no_cuts(self):
        desk = desk_with(NONE)
        for parts in ("0", "1", "24"):
            for row in ("costs {}", "least {} 2", "plan {} 2", "ride {} 2 1", "try {} 2 +1", "try {} 2 "):
                self.refused(desk, row.format(parts), BadCuts)

    def test_no_row_ahead_of_cuts(self):
        desk = desk_with()
        for row in ("ride 9 2 1", "ride 0 2 256 0", "ride 9 9 1 2", "least 9 9", "plan 0 9", "try 0 9 +1", "try 9 2"):
            self.refused(desk, row, NoRow)

    def test_cuts_ahead_of_what_has_no_plan(self):
        desk = desk_with()
        for row in ("least 9 0", "plan 9 0", "ride 9 0 1 2"):
            self.refused(desk, row, BadCuts)

    def test_texts_of_plans(self):
        desk = desk_with()
        for plan, at in (("x", 0), ("+", 0), (" ", 0), (" +1", 0), ("+1 ", 1), ("+1  +2", 1), ("+1 x", 1), ("+01", 0), ("+10000", 0),
                         ("+1 +2 -1;", 2), ("!!", 0)):
            self.refused(desk, "try 2 2 " + plan, BadText, at)

    def test_texts_ahead_of_plans(self):
        desk = desk_with()
        self.refused(desk, "try 2 2 +2 +1 x", BadText, 2)
        self.refused(desk, "try 2 0 +1 +", BadText, 1)

    def test_plans(self):
        desk = desk_with()
        for row, at in (("try 2 2 ", 0), ("try 2 2 +2", 0), ("try 2 2 +1", 1), ("try 2 2 +1 +2", 2), ("try 2 1 +1 +2", 1),
                        ("try 2 0 +1", 0), ("try 2 2 !", 0), ("try 2 2 +1 +2 ! -2", 4), ("try 2 2 +1 +2 ! ! -2 -1", 3),
                        ("try 2 2 +1 +2 +3", 2), ("try 2 2 +0", 0), ("try 2 2 +9999", 0)):
            self.refused(desk, row, BadPlan, at)

    def test_keep(self):
        desk = desk_with()
        for text, at in (("", 0), (" ", 0), ("wide 17;boxes a", 0), (" wide 8;boxes a", 0), ("wide 8", 1), ("wide 8;", 1),
                         ("wide 8;boxes a;", 2), ("wide 8;boxes a;a = ", 2), ("wide 8;boxes a;choose a", 3), ("wide 8; boxes a", 1),
                         ("wide 8;boxes a;times 21;end", 2), ("wide 8;boxes a;end", 2), (";", 0)):
            self.refused(desk, "keep " + text, BadText, at)

    def test_keep_what_check_refuses(self):
        desk = desk_with()
        self.refused(desk, "keep wide 8;boxes a b a", TwiceNamed)
        self.refused(desk, "keep wide 8;boxes a;a = b", NoBox)
        self.refused(desk, "keep wide 8;boxes a;a = 256", TooWide)
        # Texts are looked at first.
        self.refused(desk, "keep wide 8;boxes a a;b = 256;x", BadText, 3)
        for text, field, value in (("boxes b a b;c = 256", "name", "b"), ("boxes a;c = 256", "name", "c"), ("boxes a;a = 999", "number", 999)):
            with self.assertRaises(LitterError) as caught:
                desk.say("keep wide 8;" + text)
            self.assertEqual(getattr(caught.exception, field), value)


class Kept(Said):
    def test_what_is_refused_changes_nothing(self):
        desk = desk_with()
        before = [desk.say(row) for row in ROWS[:-1]]
        for row in ("keep", "keep ", "keep wide 8;boxes a;x", "keep wide 8;boxes a a", "keep wide 8;boxes a;a = b",
                    "keep wide 8;boxes a;a = 256", "walk", "costs 0", "costs 25", "try 2 2 x", "try 2 2 ", "ride 9 2 1 2"):
            with self.assertRaises(LitterError):
                desk.say(row)
            self.assertEqual([desk.say(row) for row in ROWS[:-1]], before)

    def test_another_program_behind_one(self):
        desk = desk_with()
        self.assertEqual(desk.say("pieces"), "8")
        self.assertEqual(desk.say("keep " + OTHER), "ok")
        self.assertEqual([desk.say("pieces"), desk.say("run 3"), desk.say("ride 2 2 3")], ["2", "5", "5 in 45"])
        self.refused(desk, "run 1 2", NoRow)
        self.refused(desk, "costs 3", BadCuts)
        self.assertEqual(desk.say("keep " + TEXT), "ok")
        self.assertEqual(desk.say("run 1 2"), desk_with().say("run 1 2"))

    def test_two_desks_beside_each_other(self):
        first, second, third = desk_with(), desk_with(OTHER), Desk()
        self.assertEqual((first.say("pieces"), second.say("pieces")), ("8", "2"))
        self.refused(third, "pieces", NoRow)
        first.say("keep " + NONE)
        self.assertEqual((first.say("pieces"), second.say("pieces")), ("0", "2"))
        self.refused(third, "pieces", NoRow)


if __name__ == "__main__":
    unittest.main()

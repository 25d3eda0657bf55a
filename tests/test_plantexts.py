import random
import re
import unittest

from nolitter.errors import BadText
from nolitter.planner import left_plan, shown_plan
from nolitter.plantexts import read_plan, show_plan
from tests.samples import clear, lay, random_costs, random_way

SHOW = ("show",)
PAIRS = (
    ("", []),
    ("+3", lay(3)),
    ("-3", clear(3)),
    ("!", [SHOW]),
    ("+1 ! -1", lay(1) + [SHOW] + clear(1)),
    ("+1 +2 -1", lay(1, 2) + clear(1)),
    ("! ! !", [SHOW] * 3),
    ("+0 -0", lay(0) + clear(0)),
    ("+9999 -9999", lay(9999) + clear(9999)),
    ("-24 +10 +100 +1000", clear(24) + lay(10, 100, 1000)),
)
WRONG_WORDS = ("+", "-", "3", "x", "+x", "++3", "+-3", "--3", "+03", "+00", "-00", "-01", "+10000", "-10000", "+99999", "!!", "!3",
               "+!", "+3!", "!+3", "3+", "+3-3", "+3+4", "*3", "+3,", "+3.0", "+1_0", "lay", "show", "?", "+3\n", "\n", "!\n", "\t")


class Shown(unittest.TestCase):
    def test_by_hand(self):
        for text, plan in PAIRS:
            self.assertEqual(show_plan(plan), text)

    def test_what_is_handed_in_stays(self):
        plan = lay(1) + [SHOW] + clear(1)
        show_plan(plan)
        self.assertEqual(plan, lay(1) + [SHOW] + clear(1))


class Read(unittest.TestCase):
    def refused(self, text, at):
        with self.assertRaises(BadText, msg=text) as caught:
            read_plan(text)
        self.assertEqual(caught.exception.at, at, text)

    def test_by_hand(self):
        for text, plan in PAIRS:
            told = read_plan(text)
            self.assertEqual(told, plan)
            self.assertIs(type(told), list)
            for move in told:
                self.assertEqual([type(part) for part in move], [str, int][:len(move)])

    def test_what_is_shown_is_read(self):
        for seed in range(100):
            costs = random_costs(seed, 1 + seed % 24)
            for plan in (random_way(seed, 1 + seed % 24, seed % 9, seed), shown_plan(costs, 5), left_plan(costs, 6)):
                self.assertEqual(read_plan(show_plan(plan)), plan)

    def test_a_thousand_moves(self):
        plan = (lay(1) + clear(1)) * 500
        self.assertEqual(read_plan(show_plan(plan)), plan)
        self.refused(show_plan(plan) + " ", 1000)

    def test_wrong_words(self):
        for wrong in WRONG_WORDS:
            self.refused(wrong, 0)
            self.refused("+1 " + wrong, 1)
            self.refused(wrong + " +1", 0)
            self.refused("+1 ! " + wrong + " x", 2)

    def test_blanks(self):
        for text, at in ((" ", 0), ("  ", 0), (" +1", 0), ("+1 ", 1), ("+1  -1", 1), ("! ", 1), (" !", 0), ("+1 -1   ", 2),
                         ("+ 1", 0), ("+1 - 1", 1)):
            self.refused(text, at)

    def test_long_words(self):
        self.refused("+" + "1" * 19000, 0)
        self.refused("+1 -" + "0" * 19000, 1)

    def test_changed_texts_against_another_reader(self):
        let_by = 0
        for seed in range(3000):
            chance = random.Random(seed)
            text = show_plan(random_way(seed, 12, 6, 6))
            for again in range(chance.randrange(1, 3)):
                at = chance.randrange(len(text) + 1)
                text = text[:at] + chance.choice(" +-!0123") * chance.randrange(2) + text[at + chance.randrange(3):]
            words = text.split(" ") if text else []
            wrong = [at for at, word in enumerate(words) if not re.fullmatch(r"!|[+-](0|[1-9]\d{0,3})", word)]
            if wrong:
                self.refused(text, wrong[0])
            else:
                self.assertEqual(show_plan(read_plan(text)), text)
                let_by += 1
        self.assertGreater(let_by, 300)

    def test_what_is_told_is_the_asker_s_own(self):
        read_plan("+1").clear()
        self.assertEqual(read_plan("+1"), lay(1))
        read_plan("").append(1)
        self.assertEqual(read_plan(""), [])


if __name__ == "__main__":
    unittest.main()

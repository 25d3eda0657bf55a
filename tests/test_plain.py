import unittest

from nolitter.errors import LitterError, NoBox, TooWide, TwiceNamed
from nolitter.plain import check, is_name, rows_in
from tests.samples import SIGNS, WORDS, choose, good_program, times


class Names(unittest.TestCase):
    def test_one_to_eight_small_letters(self):
        for letter in "abcdefghijklmnopqrstuvwxyz":
            for length in range(1, 9):
                self.assertIs(is_name(letter * length), True)
        self.assertIs(is_name("abcdefgh"), True)

    def test_none_and_nine_letters(self):
        self.assertIs(is_name(""), False)
        self.assertIs(is_name("abcdefghi"), False)
        self.assertIs(is_name("a" * 20000), False)

    def test_the_six_words_are_no_names(self):
        for word in WORDS:
            self.assertIs(is_name(word), False, word)

    def test_words_with_a_letter_more_or_fewer_are_names(self):
        for word in WORDS:
            for near in (word + "s", "a" + word, word[1:], word[:-1], word[0] + "q" + word[1:]):
                self.assertIs(is_name(near), True, near)

    def test_other_signs_are_no_letters(self):
        for sign in "AZ09 _-+=`{~@[\n\t\u00e4\u03b1\u0661":
            for text in (sign, "a" + sign, sign + "a", "a" + sign + "b"):
                self.assertIs(is_name(text), False, repr(text))


def refusal(program):
    """The refusal as a tuple of its kind and its field."""
    try:
        check(program)
    except LitterError as error:
        return (type(error),) + tuple(vars(error).values())
    return None


class Let(unittest.TestCase):
    def test_each_kind_of_row(self):
        rows = [("is", "a", "b"), ("is", "b", 255), choose("a", [("is", "a", 0)], [("is", "b", 1)]),
                times(20, ("is", "a", 255))]
        rows += [("op", "a", sign, "b", 255) for sign in SIGNS]
        self.assertIsNone(check((8, ("a", "b"), tuple(rows))))

    def test_no_rows_empty_ways_and_no_rounds(self):
        self.assertIsNone(check((1, ("a",), ())))
        self.assertIsNone(check((16, ("a", "b", "c", "d", "e", "f"), (choose("a"), choose(0), times(0), times(20)))))
        self.assertIsNone(check((3, ("a",), (times(0, ("is", "a", 7)),))))

    def test_many_programs(self):
        for seed in range(200):
            self.assertIsNone(check(good_program(seed)))

    def test_the_greatest_number_of_each_width(self):
        for wide in range(1, 17):
            top = 2 ** wide
            self.assertIsNone(check((wide, ("a",), (("is", "a", top - 1), ("op", "a", "+", top - 1, 0)))))
            if wide < 16:
                self.assertEqual(refusal((wide, ("a",), (("is", "a", top),))), (TooWide, top))
                self.assertEqual(refusal((wide, ("a",), (("is", "a", 65535),))), (TooWide, 65535))


class Refused(unittest.TestCase):
    def test_a_box_named_twice(self):
        self.assertEqual(refusal((8, ("a", "a"), ())), (TwiceNamed, "a"))
        self.assertEqual(refusal((8, ("a", "b", "c", "d", "e", "a"), ())), (TwiceNamed, "a"))

    def test_the_first_box_that_is_named_like_one_ahead(self):
        self.assertEqual(refusal((8, ("a", "b", "b", "a"), ())), (TwiceNamed, "b"))
        self.assertEqual(refusal((8, ("a", "b", "c", "c", "b", "a"), ())), (TwiceNamed, "c"))

    def test_each_place_of_a_row(self):
        wrong = {"q": (NoBox, "q"), 4: (TooWide, 4)}
        for atom, told in wrong.items():
            for row in (("is", "a", atom), choose(atom), ("op", "a", "+", atom, 1), ("op", "a", "+", 1, atom)):
                self.assertEqual(refusal((2, ("a",), (row,))), told, row)
        self.assertEqual(refusal((2, ("a",), (("is", "q", 1),))), (NoBox, "q"))
        self.assertEqual(refusal((2, ("a",), (("op", "q", "+", 1, 1),))), (NoBox, "q"))

    def test_each_sign_is_looked_at(self):
        for sign in SIGNS:
            self.assertEqual(refusal((2, ("a",), (("op", "a", sign, "a", 9),))), (TooWide, 9))

    def test_within_other_rows(self):
        bad = ("is", "a", "q")
        for row in (choose("a", [bad]), choose("a", [], [bad]), times(3, bad), times(0, bad),
                    times(0, times(0, choose(1, [], [bad])))):
            self.assertEqual(refusal((2, ("a",), (row,))), (NoBox, "q"), row)

    def test_a_number_is_no_times(self):
        self.assertIsNone(check((1, ("a",), (times(20),))))


class Order(unittest.TestCase):
    """Two wrong things in one program: the first is told."""

    def first_of(self, *rows):
        told = refusal((2, ("a",), rows))
        self.assertIn(told[0], (NoBox, TooWide))
        return told[1]

    def test_boxes_ahead_of_rows(self):
        self.assertEqual(refusal((1, ("a", "a"), (("is", "q", 9),))), (TwiceNamed, "a"))

    def test_rows_in_order(self):
        self.assertEqual(self.first_of(("is", "a", "q"), ("is", "a", "r")), "q")
        self.assertEqual(self.first_of(("is", "a", "q"), ("is", "a", 9)), "q")
        self.assertEqual(self.first_of(("is", "a", 9), ("is", "a", "q")), 9)
        self.assertEqual(self.first_of(times(1, ("is", "a", 9)), ("is", "q", 1)), 9)
        self.assertEqual(self.first_of(times(0, ("is", "a", 9)), ("is", "q", 1)), 9)
        self.assertEqual(self.first_of(("is", "a", 5), times(0, ("is", "a", 9))), 5)

    def test_within_a_row(self):
        self.assertEqual(self.first_of(("is", "q", "r")), "q")
        self.assertEqual(self.first_of(("is", "q", 9)), "q")
        self.assertEqual(self.first_of(("op", "q", "+", "r", "s")), "q")
        self.assertEqual(self.first_of(("op", "a", "+", "r", "s")), "r")
        self.assertEqual(self.first_of(("op", "a", "+", 8, "s")), 8)
        self.assertEqual(self.first_of(("op", "a", "+", "r", 8)), "r")
        self.assertEqual(self.first_of(("op", "a", "+", 1, "s")), "s")

    def test_within_a_choose(self):
        yes, no = ("is", "a", "y"), ("is", "a", "n")
        self.assertEqual(self.first_of(choose("q", [yes], [no])), "q")
        self.assertEqual(self.first_of(choose(9, [yes], [no])), 9)
        self.assertEqual(self.first_of(choose("a", [yes], [no])), "y")
        self.assertEqual(self.first_of(choose("a", [], [no]), yes), "n")
        self.assertEqual(self.first_of(choose("a", [choose(1, [], [no])], []), yes), "n")


class Counting(unittest.TestCase):
    def test_of_no_rows(self):
        self.assertEqual(rows_in(()), 0)
        self.assertEqual(rows_in([]), 0)

    def test_inner_rows_are_counted(self):
        row = ("is", "a", 1)
        self.assertEqual(rows_in((row,)), 1)
        self.assertEqual(rows_in((row, ("op", "a", "+", 1, 1))), 2)
        self.assertEqual(rows_in((choose("a"),)), 1)
        self.assertEqual(rows_in((choose("a", [row], [row, row]),)), 4)
        self.assertEqual(rows_in((choose("a", [choose("a", [row], [row])], [times(2, row)]), row)), 7)

    def test_rows_of_a_times_count_once(self):
        row = ("is", "a", 1)
        for rounds in (0, 1, 20):
            self.assertEqual(rows_in((times(rounds),)), 1)
            self.assertEqual(rows_in((times(rounds, row, row),)), 3)
            self.assertEqual(rows_in((times(rounds, times(rounds, row)), row)), 4)

    def test_a_list_stays_as_it_was(self):
        rows = [choose("a", [("is", "a", 1)]), times(3, ("is", "a", 1))]
        before = list(rows)
        self.assertEqual([rows_in(rows), rows_in(rows)], [4, 4])
        self.assertEqual(rows, before)


class Twice(unittest.TestCase):
    def test_the_same_question_has_the_same_answer(self):
        program = (2, ("a", "b"), (("is", "a", 9),))
        self.assertEqual(refusal(program), refusal(program))
        self.assertEqual(program, (2, ("a", "b"), (("is", "a", 9),)))


if __name__ == "__main__":
    unittest.main()

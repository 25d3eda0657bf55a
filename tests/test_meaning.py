import unittest

from nolitter.meaning import run, through
from nolitter.plain import check
from tests.samples import SIGNS, choose, good_program, random_state, times


def told(wide, sign, first, second):
    """What an op makes of two boxes."""
    program = (wide, ("a", "b", "c"), (("op", "c", sign, "a", "b"),))
    return run(program, [first, second, 0])[2]


def source_of(rows, wide, indent):
    """Rows as Python's own."""
    forms = {"+": "({} + {}) & top", "-": "({} - {}) & top", "<": "int({} < {})", "=": "int({} == {})",
             "&": "{} & {}", "|": "{} | {}", "^": "{} ^ {}"}
    lines = [indent + "pass"]
    for row in rows:
        atoms = [f"box_{atom}" if isinstance(atom, str) else str(atom) for atom in row[1:] if isinstance(atom, (str, int))]
        if row[0] == "is":
            lines.append(f"{indent}{atoms[0]} = {atoms[1]}")
        elif row[0] == "op":
            lines.append(f"{indent}{atoms[0]} = " + forms[row[2]].format(atoms[2], atoms[3]))
        elif row[0] == "choose":
            lines.append(f"{indent}if {atoms[0]}:")
            lines += source_of(row[2], wide, indent + " ")
            lines.append(f"{indent}else:")
            lines += source_of(row[3], wide, indent + " ")
        else:
            lines.append(f"{indent}for turn in range({row[1]}):")
            lines += source_of(row[2], wide, indent + " ")
    return lines


def answer_by_python(program, numbers):
    values = {f"box_{name}": number for name, number in zip(program[1], numbers)}
    values["top"] = 2 ** program[0] - 1
    exec("\n".join(source_of(program[2], program[0], "")), values)
    return [values[f"box_{name}"] for name in program[1]]


class Signs(unittest.TestCase):
    def test_all_pairs_of_small_widths(self):
        for wide in (1, 2, 3):
            top = 2 ** wide
            for first in range(top):
                for second in range(top):
                    expected = {"+": (first + second) % top, "-": (first - second + top) % top, "&": first & second,
                                "|": first | second, "^": first ^ second, "<": 1 if first < second else 0,
                                "=": 1 if first == second else 0}
                    for sign in SIGNS:
                        self.assertEqual(told(wide, sign, first, second), expected[sign], (wide, sign, first, second))

    def test_the_edges_of_wide_16(self):
        for sign, first, second, expected in (
                ("+", 65535, 1, 0), ("+", 65535, 65535, 65534), ("+", 0, 65535, 65535), ("+", 32768, 32767, 65535),
                ("-", 0, 1, 65535), ("-", 0, 65535, 1), ("-", 65535, 65535, 0), ("-", 0, 0, 0), ("-", 7, 9, 65534),
                ("&", 65535, 43690, 43690), ("&", 21845, 43690, 0), ("|", 21845, 43690, 65535), ("|", 0, 0, 0),
                ("^", 65535, 43690, 21845), ("^", 65535, 65535, 0), ("<", 65534, 65535, 1), ("<", 65535, 65535, 0),
                ("<", 65535, 0, 0), ("=", 65535, 65535, 1), ("=", 65535, 0, 0), ("=", 0, 0, 1)):
            self.assertEqual(told(16, sign, first, second), expected, (sign, first, second))

    def test_what_is_told_is_no_truth(self):
        for sign in SIGNS:
            self.assertIs(type(told(1, sign, 1, 1)), int)

    def test_atoms_are_boxes_or_numbers(self):
        for first, second in (("a", 3), (5, "b"), ("a", "b"), (5, 3)):
            program = (8, ("a", "b"), (("op", "a", "-", first, second),))
            self.assertEqual(run(program, [5, 3]), [2, 3])

    def test_a_box_that_is_set_may_be_read_in_the_same_row(self):
        self.assertEqual(run((8, ("a",), (("op", "a", "+", "a", "a"),)), [200]), [144])


class Rows(unittest.TestCase):
    def test_no_rows(self):
        self.assertEqual(run((4, ("a", "b"), ()), [15, 0]), [15, 0])

    def test_is(self):
        self.assertEqual(run((4, ("a", "b"), (("is", "a", "b"),)), [1, 15]), [15, 15])
        self.assertEqual(run((4, ("a", "b"), (("is", "b", 9),)), [1, 15]), [1, 9])
        self.assertEqual(run((4, ("a", "b"), (("is", "b", "b"),)), [1, 15]), [1, 15])

    def test_rows_go_in_order(self):
        rows = (("is", "a", "b"), ("is", "b", 3), ("op", "a", "+", "a", "b"))
        self.assertEqual(run((4, ("a", "b"), rows), [1, 5]), [8, 3])

    def test_choose_by_a_box(self):
        program = (2, ("a", "b"), (choose("a", [("is", "b", 1)], [("is", "b", 2)]),))
        self.assertEqual([run(program, [number, 0]) for number in range(4)], [[0, 2], [1, 1], [2, 1], [3, 1]])

    def test_choose_by_a_number(self):
        for number, way in ((0, 2), (1, 1), (3, 1)):
            program = (2, ("a", "b"), (choose(number, [("is", "b", 1)], [("is", "b", 2)]),))
            self.assertEqual(run(program, [0, 0]), [0, way])

    def test_choose_with_empty_ways(self):
        self.assertEqual(run((2, ("a",), (choose("a"), choose(0), choose(1))), [2]), [2])
        only_yes = (2, ("a",), (choose("a", [("is", "a", 3)]),))
        self.assertEqual([run(only_yes, [0]), run(only_yes, [1])], [[0], [3]])
        only_no = (2, ("a",), (choose("a", [], [("is", "a", 3)]),))
        self.assertEqual([run(only_no, [0]), run(only_no, [1])], [[3], [1]])

    def test_a_way_that_changes_its_own_condition_is_gone_to_its_end(self):
        program = (2, ("a", "b"), (choose("a", [("is", "a", 0), ("is", "b", 1)], [("is", "b", 2)]),))
        self.assertEqual(run(program, [1, 0]), [0, 1])

    def test_times(self):
        for rounds in (0, 1, 2, 20):
            program = (8, ("a",), (times(rounds, ("op", "a", "+", "a", 3)),))
            self.assertEqual(run(program, [5]), [5 + 3 * rounds])

    def test_times_within_times(self):
        add = ("op", "a", "+", "a", 1)
        program = (16, ("a",), (times(3, times(20, add), times(0, add), times(2, times(1, add))),))
        self.assertEqual(run(program, [0]), [66])
        self.assertEqual(run((16, ("a",), (times(0, times(20, add)),)), [4]), [4])

    def test_rounds_alone_within_rounds(self):
        add = ("op", "a", "+", "a", 1)
        for rounds in (0, 1, 2, 20):
            self.assertEqual(run((16, ("a",), (times(3, times(rounds, add)),)), [0]), [3 * rounds])
            self.assertEqual(run((16, ("a",), (times(rounds, times(1, times(1, add))),)), [0]), [rounds])
            self.assertEqual(run((16, ("a",), (times(1, choose(1, [times(rounds, add)])),)), [0]), [rounds])

    def test_rounds_without_rows_within_one_another(self):
        rows = ()
        for depth in range(6):
            rows = (times(20, *rows),)
        self.assertEqual(run((1, ("a",), rows), [1]), [1])
        self.assertEqual(through(rows, ("a",), 1, (1,)), (1,))
        rows = (times(0, ("is", "a", 0)),)
        for depth in range(5):
            rows = (times(20, *rows),)
        self.assertEqual(run((1, ("a",), rows), [1]), [1])

    def test_a_round_with_empty_rounds_ahead_is_gone(self):
        rows = (times(3, times(20), times(0, ("is", "a", 0)), times(2, ("op", "a", "+", "a", 1))),)
        self.assertEqual(run((8, ("a",), rows), [1]), [7])

    def test_the_same_as_python_itself(self):
        for seed in range(400):
            program = good_program(seed)
            check(program)
            for again in range(3):
                numbers = random_state(seed * 3 + again, program)
                expected = answer_by_python(program, numbers)
                self.assertEqual(run(program, numbers), expected, (program, numbers))
                self.assertEqual(through(program[2], program[1], program[0], tuple(numbers)), tuple(expected))


class Kinds(unittest.TestCase):
    PROGRAM = (8, ("a", "b"), (("op", "a", "+", "a", "b"), times(2, ("is", "b", "a"))))

    def test_run_tells_a_list_and_through_a_tuple(self):
        self.assertIs(type(run(self.PROGRAM, [1, 2])), list)
        self.assertIs(type(through(self.PROGRAM[2], ("a", "b"), 8, (1, 2))), tuple)
        self.assertIs(type(through([], ("a", "b"), 8, (1, 2))), tuple)

    def test_rows_as_a_list_and_as_a_tuple(self):
        rows = self.PROGRAM[2]
        self.assertEqual(through(rows, ("a", "b"), 8, (1, 2)), (3, 3))
        self.assertEqual(through(list(rows), ("a", "b"), 8, (1, 2)), (3, 3))
        self.assertEqual(through(list(rows[:1]), ("a", "b"), 8, (1, 2)), (3, 2))

    def test_the_state_stands_in_the_order_of_the_boxes(self):
        self.assertEqual(through([("is", "a", 9)], ("b", "a", "c"), 8, (1, 2, 3)), (1, 9, 3))

    def test_what_is_handed_in_stays_and_what_is_told_is_new(self):
        numbers = [1, 2]
        rows = list(self.PROGRAM[2])
        first = run(self.PROGRAM, numbers)
        through(rows, ("a", "b"), 8, (1, 2))
        self.assertEqual(numbers, [1, 2])
        self.assertEqual(rows, list(self.PROGRAM[2]))
        first[0] = 99
        self.assertEqual(run(self.PROGRAM, numbers), [3, 3])
        nothing = run((8, ("a",), ()), numbers[:1])
        self.assertIsNot(nothing, numbers)


if __name__ == "__main__":
    unittest.main()

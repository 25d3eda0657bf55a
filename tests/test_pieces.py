import unittest

from nolitter.meaning import run, through
from nolitter.pieces import kept, pieces, weight
from tests.samples import choose, good_program, random_state, times

ADD = ("op", "a", "+", "a", 1)
SET = ("is", "b", "a")


def program_of(*rows):
    return (8, ("a", "b"), rows)


def kinds_in(rows):
    """The kinds of all rows, inner ones too."""
    kinds = set()
    for row in rows:
        kinds.add(row[0])
        if row[0] == "choose":
            kinds |= kinds_in(row[2]) | kinds_in(row[3])
    return kinds


class Pieces(unittest.TestCase):
    def test_rows_without_times_stay(self):
        row = choose("a", [ADD], [SET, choose(1)])
        self.assertEqual(pieces(program_of(ADD, row, SET)), [ADD, row, SET])
        self.assertEqual(pieces(program_of()), [])

    def test_each_times_is_written_out(self):
        self.assertEqual(pieces(program_of(times(3, ADD, SET))), [ADD, SET, ADD, SET, ADD, SET])
        self.assertEqual(pieces(program_of(times(1, ADD))), [ADD])
        self.assertEqual(pieces(program_of(SET, times(20, ADD), SET)), [SET] + [ADD] * 20 + [SET])

    def test_no_rounds_and_no_rows(self):
        self.assertEqual(pieces(program_of(times(0, ADD), SET, times(20))), [SET])
        self.assertEqual(pieces(program_of(times(3, times(0, ADD)))), [])

    def test_times_within_times(self):
        self.assertEqual(pieces(program_of(times(2, times(2, ADD), SET))), [ADD, ADD, SET, ADD, ADD, SET])
        self.assertEqual(pieces(program_of(times(0, times(2, ADD)))), [])

    def test_times_within_ways(self):
        row = choose("a", [times(2, ADD)], [SET, times(0, ADD), times(1, SET)])
        self.assertEqual(pieces(program_of(row)), [choose("a", [ADD, ADD], [SET, SET])])
        self.assertEqual(pieces(program_of(times(2, row))), [choose("a", [ADD, ADD], [SET, SET])] * 2)
        deep = choose("b", [choose(1, [], [times(2, choose(0, [times(1, ADD)]))])])
        self.assertEqual(pieces(program_of(deep)), [choose("b", [choose(1, [], [choose(0, [ADD])] * 2)])])

    def test_much_within_no_round_isn_t_written_out(self):
        rows = (ADD,) * 50
        for depth in range(4):
            rows = (times(20, *rows),)
        self.assertEqual(pieces(program_of(times(0, *rows), ADD)), [ADD])
        self.assertEqual(pieces(program_of(choose("a", [times(0, *rows)]))), [choose("a")])
        self.assertEqual(kept(program_of(times(0, *rows)), [1, 2]), [(1, 2)])

    def test_rounds_without_rows_within_one_another(self):
        rows = ()
        for depth in range(6):
            rows = (times(20, *rows),)
        self.assertEqual(pieces(program_of(*rows)), [])
        self.assertEqual(kept(program_of(*rows), [1, 2]), [(1, 2)])

    def test_what_the_pieces_mean(self):
        for seed in range(200):
            program = good_program(seed)
            rows = pieces(program)
            self.assertIs(type(rows), list)
            self.assertLessEqual(kinds_in(rows), {"is", "op", "choose"})
            hash(tuple(rows))
            state = tuple(random_state(seed, program))
            self.assertEqual(through(rows, program[1], program[0], state), tuple(run(program, list(state))))


class Kept(unittest.TestCase):
    def test_an_example(self):
        program = program_of(ADD, times(2, SET, ADD), choose("a", [times(2, ADD)]))
        self.assertEqual(kept(program, [254, 7]), [(254, 7), (255, 7), (255, 255), (0, 255), (0, 0), (1, 0), (3, 0)])

    def test_no_pieces(self):
        self.assertEqual(kept(program_of(), [3, 4]), [(3, 4)])

    def test_one_more_than_pieces_from_the_input_to_the_answer(self):
        for seed in range(200):
            program = good_program(seed)
            numbers = random_state(seed, program)
            rows = pieces(program)
            states = kept(program, numbers)
            self.assertIs(type(states), list)
            self.assertEqual(len(states), len(rows) + 1)
            self.assertEqual(states[0], tuple(numbers))
            self.assertEqual(states[-1], tuple(run(program, numbers)))
            for at, row in enumerate(rows):
                self.assertEqual(through([row], program[1], program[0], states[at]), states[at + 1])


class Weight(unittest.TestCase):
    def test_inner_rows_are_counted(self):
        self.assertEqual(weight([]), 0)
        self.assertEqual(weight([ADD, SET]), 2)
        self.assertEqual(weight([choose("a")]), 1)
        self.assertEqual(weight([choose("a", [ADD, SET], [choose(1, [], [ADD])]), SET]), 6)
        self.assertEqual(weight(pieces(program_of(times(3, ADD, choose("a", [times(2, SET)]))))), 12)


class Handed(unittest.TestCase):
    def test_what_is_handed_in_stays_and_what_is_told_is_new(self):
        program = program_of(ADD, times(2, SET))
        numbers = [1, 2]
        rows = pieces(program)
        states = kept(program, numbers)
        many = [weight(rows), weight(rows)]
        self.assertEqual(many, [3, 3])
        self.assertEqual(numbers, [1, 2])
        rows.append(ADD)
        states.clear()
        self.assertEqual(pieces(program), [ADD, SET, SET])
        self.assertEqual(kept(program, numbers), [(1, 2), (2, 2), (2, 2), (2, 2)])
        self.assertEqual(program, program_of(ADD, times(2, SET)))


if __name__ == "__main__":
    unittest.main()

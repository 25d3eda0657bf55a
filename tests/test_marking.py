import unittest

from nolitter.codes import check_code
from nolitter.marking import marking, marking_steps
from nolitter.meaning import through
from nolitter.pieces import pieces, weight
from nolitter.rides import run_forth
from tests.samples import good_program, random_state


class Marking(unittest.TestCase):
    def look(self, program, state, source, target, fresh):
        """Lay the mark of a program's pieces as one stretch, and clear it again."""
        stretch, many = pieces(program), len(program[1])
        lay = marking("add", stretch, program, source, target, fresh)
        clear = marking("take", stretch, program, source, target, fresh)
        for code in (lay, clear):
            self.assertIsNone(check_code(code))
            self.assertLessEqual(code[0], fresh + 20 * weight(stretch))
        begin = [7] * fresh + [0] * (lay[0] - fresh)
        begin[source:source + many] = state
        begin[target:target + many] = [0] * many
        laid = list(begin)
        laid[target:target + many] = through(stretch, program[1], program[0], tuple(state))
        steps = marking_steps(stretch, program)
        self.assertEqual(run_forth(lay, begin, 10 ** 6), ("end", len(lay[1]), laid, steps))
        self.assertEqual(run_forth(clear, laid, 10 ** 6), ("end", len(clear[1]), begin, steps))

    def test_laid_and_cleared(self):
        looked = 0
        for seed in range(150):
            program = good_program(seed, 3, 2)
            many = len(program[1])
            for again, (source, target, fresh) in enumerate(((0, many, 2 * many), (2 * many, 0, 3 * many + 5),
                                                             (3, 3 + 2 * many, 40))):
                self.look(program, random_state(seed + again, program), source, target, fresh)
            looked += len(pieces(program)) > 0
        self.assertGreater(looked, 100)


if __name__ == "__main__":
    unittest.main()

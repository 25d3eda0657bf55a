"""A desk that keeps a program and answers rows of words."""

from nolitter.cuts import costs, even
from nolitter.errors import NoRow
from nolitter.figures import number_in
from nolitter.maker import made, steps
from nolitter.meaning import run
from nolitter.pieces import pieces
from nolitter.plain import check
from nolitter.planner import shown_plan
from nolitter.plans import checked
from nolitter.plantexts import read_plan, show_plan
from nolitter.rides import run_back, run_forth
from nolitter.table import reached
from nolitter.texts import read

KEEP = "keep "
MOST_PARTS = 24
MOST_SPARE = 8


class Desk:
    """What keeps a program, at first none."""

    def __init__(self):
        self.program = None

    def say(self, row):
        """The answer to a row; else refuse it."""
        if row.startswith(KEEP):
            self.program = program_in(row[len(KEEP):])
            return "ok"
        if self.program is None:
            raise NoRow()
        return answer(row.split(" "), self.program)


def program_in(text):
    """The program of a text with ; in the place of line feeds; else refuse it."""
    program = read(text.replace(";", "\n"))
    check(program)
    return program


def answer(words, program):
    """The answer to a row's words, where a program is kept."""
    if words[0] == "run":
        return in_words(run(program, input_in(words[1:], program)))
    if words == ["pieces"]:
        return str(len(pieces(program)))
    if words[0] == "costs" and len(words) == 2:
        return in_words(costs(program, cuts_of(parts_in(words), program)))
    if words[0] == "least" and len(words) == 3:
        return answer_least(parts_in(words), spare_in(words), program)
    if words[0] == "plan" and len(words) == 3:
        return answer_plan(parts_in(words), spare_in(words), program)
    if words[0] == "ride" and len(words) > 3:
        return answer_ride(parts_in(words), spare_in(words), input_in(words[3:], program), program)
    if words[0] == "try" and len(words) > 3:
        return answer_try(parts_in(words), spare_in(words), " ".join(words[3:]), program)
    raise NoRow()


def number_of(word, most):
    """The number, from 0 to most, that a word is written for; else refuse the row."""
    number = number_in(word, most)
    if number is None:
        raise NoRow()
    return number


def parts_in(words):
    """The number of parts that a row asks for."""
    return number_of(words[1], MOST_PARTS)


def spare_in(words):
    """The number of spare places that a row asks for."""
    return number_of(words[2], MOST_SPARE)


def input_in(words, program):
    """The numbers that words are written for, one for each of the program's boxes; else refuse the row."""
    if len(words) != len(program[1]):
        raise NoRow()
    return [number_of(word, (1 << program[0]) - 1) for word in words]


def cuts_of(parts, program):
    """The even cuts of a program into so many parts."""
    return even(len(pieces(program)), parts)


def in_words(numbers):
    """Numbers with blanks between."""
    return " ".join([str(number) for number in numbers])


def answer_least(parts, spare, program):
    """The least work of a shown plan."""
    least = reached(costs(program, cuts_of(parts, program)), spare)
    return "none" if least is None else str(2 * least)


def answer_plan(parts, spare, program):
    """A shown plan of the least work."""
    plan = shown_plan(costs(program, cuts_of(parts, program)), spare)
    return "none" if plan is None else show_plan(plan)


def answer_ride(parts, spare, numbers, program):
    """The answer that a made code comes to, and in how many steps."""
    cuts = cuts_of(parts, program)
    plan = shown_plan(costs(program, cuts), spare)
    if plan is None:
        return "none"
    most = steps(program, cuts, spare, plan)
    forth = there_and_back(made(program, cuts, spare, plan), numbers, most)[0]
    many = len(numbers)
    return " ".join([in_words(forth[2][many:2 * many]), "in", str(forth[3])])


def there_and_back(code, numbers, most):
    """What is told of a code's run forth from an input, and of the run back from where that came to."""
    forth = run_forth(code, numbers + [0] * (code[0] - len(numbers)), most)
    return (forth, run_back(code, forth[2], forth[1], most))


def answer_try(parts, spare, text, program):
    """Whether a plan is shown or left."""
    cuts = cuts_of(parts, program)
    return checked(read_plan(text), len(cuts), spare)

"""Plans: whether they keep the rules, and what is told of them.

A set of marks is a number, in which mark k counts 2 ** (k - 1).
"""

from nolitter.errors import BadPlan


def checked(plan, n, s):
    """Whether a plan for n stretches and s spare places is "shown" or "left"; else refuse it."""
    marks = 0
    shown = False
    for at, move in enumerate(plan):
        if move[0] == "show":
            may_be = stands(n, marks) and not shown
            shown = True
        else:
            may_be = may_do(move, marks, n, s)
        if not may_be:
            raise BadPlan(at)
        marks = behind(move, marks)
    if shown and marks == 0:
        return "shown"
    if not shown and marks == set_of(n):
        return "left"
    raise BadPlan(len(plan))


def may_do(move, marks, n, s):
    """Whether a lay or clear keeps the rules where just these marks stand."""
    k = move[1]
    if k < 1 or k > n or not stands(k - 1, marks):
        return False
    if move[0] == "lay":
        return not stands(k, marks) and many_in(marks) < s
    return stands(k, marks)


def set_of(k):
    """The set of mark k alone; 0 is the input, and no mark."""
    return 1 << (k - 1) if k > 0 else 0


def stands(k, marks):
    """Whether mark k, or the input where k is 0, stands."""
    return k == 0 or marks & set_of(k) != 0


def many_in(marks):
    """How many marks are in a set."""
    many = 0
    while marks > 0:
        many += marks & 1
        marks = marks >> 1
    return many


def behind(move, marks):
    """The set of marks that stand behind a move."""
    if move[0] == "lay":
        return marks | set_of(move[1])
    if move[0] == "clear":
        return marks & ~set_of(move[1])
    return marks


def sets_along(plan):
    """The sets of marks that stand at first and behind each move."""
    marks = 0
    sets = [marks]
    for move in plan:
        marks = behind(move, marks)
        sets.append(marks)
    return sets


def most_marks(plan):
    """The most marks that stand at once."""
    return max([many_in(marks) for marks in sets_along(plan)])


def work(plan, costs):
    """The sum of the costs of all lays and clears."""
    return sum([costs[move[1] - 1] for move in plan if move[0] != "show"])


def turned_plan(plan):
    """A plan's moves from the last to the first, lays as clears, clears as lays."""
    return [turned_move(move) for move in reversed(plan)]


def turned_move(move):
    """The move that undoes a move."""
    if move[0] == "lay":
        return ("clear", move[1])
    if move[0] == "clear":
        return ("lay", move[1])
    return move

"""All sets of marks that ways lead to."""

from nolitter.plans import behind, may_do, stands


def moves_from(marks, n, s):
    """The lays and clears that keep the rules where just these marks stand, by their k."""
    moves = [move_on(k, marks) for k in range(1, n + 1)]
    return [move for move in moves if may_do(move, marks, n, s)]


def move_on(k, marks):
    """The only move on mark k that may be, where just these marks stand."""
    return ("clear", k) if stands(k, marks) else ("lay", k)


def come_to(n, s):
    """The sets that ways lead to from no marks, rising."""
    found = {0: True}
    ahead = [0]
    while len(ahead) > 0:
        marks = ahead.pop()
        for move in moves_from(marks, n, s):
            other = behind(move, marks)
            if other not in found:
                found[other] = True
                ahead.append(other)
    return sorted(found)

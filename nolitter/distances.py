"""How much work lies between no marks and each set that is come to, and ways of just that work."""

from nolitter.plans import behind, turned_move, turned_plan
from nolitter.sets import moves_from


def distances(costs, s):
    """The least work of a way to each set that is come to, the sets rising."""
    found = cheapest(costs, s)
    told = {}
    for marks in sorted(found):
        told[marks] = found[marks][0]
    return told


def way_to(costs, s, marks):
    """A way of the least work to a set; None where none leads to it."""
    found = cheapest(costs, s)
    if marks not in found:
        return None
    back = []
    while marks != 0:
        move = turned_move(found[marks][1])
        back.append(move)
        marks = behind(move, marks)
    return turned_plan(back)


def cheapest(costs, s):
    """For each set that is come to, the least work of a way to it, and the last move of such a way."""
    found = {}
    seen = {0: (0, None)}
    while len(seen) > 0:
        # A way to the nearest of the sets seen can't be bettered any more: each other way goes by one as far.
        marks = min(seen, key=lambda one: seen[one][0])
        found[marks] = seen.pop(marks)
        for move in moves_from(marks, len(costs), s):
            other = behind(move, marks)
            if other not in found:
                see(other, (found[marks][0] + costs[move[1] - 1], move), seen)
    return found


def see(marks, offer, seen):
    """Keep what is offered for a set, where nothing cheaper is kept."""
    if marks not in seen or offer[0] < seen[marks][0]:
        seen[marks] = offer

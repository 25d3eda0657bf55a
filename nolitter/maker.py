"""Codes made of programs by plans.

A made code's boxes are the input's, the answer's, those of the spare places, and behind them the ones that stretches
are woven in, which hold 0 ahead of each move and behind it.
"""

from nolitter.codes import joined
from nolitter.cuts import costs, stretches
from nolitter.marking import marking
from nolitter.plans import checked, most_marks, work


def made(program, cuts, s, plan):
    """The code of a program, cut so, by a plan."""
    parts = stretches(program, cuts)
    word = checked(plan, len(parts), s)
    slots = slots_along(plan, len(program[1]))
    codes = move_codes(program, parts, plan, slots)
    if word == "left":
        codes.append(left_code(slots[-1][len(parts)], len(program[1])))
    return joined(codes)


def stops(program, cuts, s, plan):
    """For the begin and behind each move the place at which the run stands, and where the marks that stand begin."""
    parts = stretches(program, cuts)
    checked(plan, len(parts), s)
    slots = slots_along(plan, len(program[1]))
    place = 0
    told = [(place, slots[0])]
    for code, standing in zip(move_codes(program, parts, plan, slots), slots[1:]):
        place += len(code[1])
        told.append((place, standing))
    return told


def steps(program, cuts, s, plan):
    """The steps that the made code takes, whatever the input."""
    prices = costs(program, cuts)
    checked(plan, len(prices), s)
    return work(plan, prices) + len(program[1])


def slots_along(plan, many):
    """For the begin and behind each move the first box of each mark that stands, marks rising.

    Each mark has as many boxes as the program.
    """
    slots = {}
    told = [slots]
    for move in plan:
        slots = slots_behind(move, slots, many)
        told.append(slots)
    return told


def slots_behind(move, slots, many):
    """The first box of each mark that stands behind a move."""
    held = dict(slots)
    if move[0] == "lay":
        held[move[1]] = free_slot(slots, many)
    elif move[0] == "clear":
        held.pop(move[1])
    return dict([(mark, held[mark]) for mark in sorted(held)])


def free_slot(slots, many):
    """The first box of the first spare place in which no mark stands."""
    taken = list(slots.values())
    box = 2 * many
    while box in taken:
        box += many
    return box


def move_codes(program, parts, plan, slots):
    """A code for each move."""
    fresh = (2 + most_marks(plan)) * len(program[1])
    # A plan may go to and fro between the same boxes many times, and what is woven is long.
    known = {}
    codes = []
    for at, move in enumerate(plan):
        # A mark that is laid has its boxes behind the move, any other one ahead of it.
        standing = slots[at + 1] if move[0] == "lay" else slots[at]
        k = len(parts) if move[0] == "show" else move[1]
        key = (move, standing.get(k - 1, 0), standing[k])
        if key not in known:
            known[key] = move_code(move, parts[k - 1], program, key[1], key[2], fresh)
        codes.append(known[key])
    return codes


def move_code(move, stretch, program, source, target, fresh):
    """The code that does a move on the mark at target, whose stretch begins with what the boxes at source hold."""
    if move[0] == "show":
        return shown_code(target, len(program[1]))
    word = "add" if move[0] == "lay" else "take"
    return marking(word, stretch, program, source, target, fresh)


def shown_code(slot, many):
    """The code that adds a mark's boxes to the answer's."""
    return (slot + many, [("add", many + at, ("box", slot + at)) for at in range(many)])


def left_code(slot, many):
    """The code that swaps a mark's boxes with the answer's."""
    return (slot + many, [("swap", many + at, slot + at) for at in range(many)])

"""The pieces of a program: its rows without times."""

from nolitter.meaning import through
from nolitter.plain import rows_in


def pieces(program):
    """The rows of a program, each times written out."""
    return unrolled(program[2])


def kept(program, numbers):
    """The states ahead of each piece, and behind the last one."""
    state = tuple(numbers)
    states = [state]
    for piece in pieces(program):
        state = through([piece], program[1], program[0], state)
        states.append(state)
    return states


def weight(pieces):
    """How many rows are in pieces, inner ones counted."""
    return rows_in(pieces)


def unrolled(rows):
    """Rows with each times written out, also within them."""
    plain = []
    for row in rows:
        plain.extend(unrolled_row(row))
    return plain


def unrolled_row(row):
    """The rows that stand in the place of one."""
    if row[0] == "times":
        # What stands within no round may be very long written out, and isn't needed.
        return [] if row[1] == 0 else unrolled(row[2]) * row[1]
    if row[0] == "choose":
        return [("choose", row[1], tuple(unrolled(row[2])), tuple(unrolled(row[3])))]
    return [row]

"""A program's pieces cut into stretches, and what each stretch costs."""

from nolitter.errors import BadCuts
from nolitter.marking import marking_steps
from nolitter.pieces import pieces


def even(many, n):
    """The sizes of n parts of so many pieces, as like as can be, the greater ones ahead."""
    if n < 1 or n > many:
        raise BadCuts()
    size = many // n
    greater = many % n
    return [size + 1] * greater + [size] * (n - greater)


def stretches(program, cuts):
    """The pieces of each stretch."""
    all_pieces = pieces(program)
    # Cuts of none at all have a sum of 0, as has a program without pieces.
    if len(cuts) == 0 or min(cuts) < 1 or sum(cuts) != len(all_pieces):
        raise BadCuts()
    parts = []
    begin = 0
    for size in cuts:
        parts.append(all_pieces[begin:begin + size])
        begin += size
    return parts


def costs(program, cuts):
    """The steps that it takes to lay or clear each stretch's mark."""
    return [marking_steps(stretch, program) for stretch in stretches(program, cuts)]

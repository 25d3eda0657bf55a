"""Ways thinned: moves that came to nothing are left out."""

from nolitter.plans import sets_along


def thinned(way):
    """A way without the moves that came to nothing, and without those that then do, until none does."""
    thick = list(way)
    thin = thinned_once(thick)
    while len(thin) < len(thick):
        thick = thin
        thin = thinned_once(thick)
    return thin


def thinned_once(way):
    """A way without the moves on marks from which on, at a moment behind the move, none stands."""
    # The length of a set's number in bits is the highest mark in it.
    highest = [marks.bit_length() for marks in sets_along(way)]
    lowest_behind = highest[-1]
    left = []
    for move, top in reversed(list(zip(way, highest[1:]))):
        lowest_behind = min(lowest_behind, top)
        if move[1] <= lowest_behind:
            left.append(move)
    left.reverse()
    return left

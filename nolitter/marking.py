"""How a mark is laid and cleared: its stretch is woven forth, what that makes is carried over, and it is woven back."""

from nolitter.codes import joined
from nolitter.turned import turned
from nolitter.weave import weave


def marking(word, stretch, program, source, target, fresh):
    """The code that carries what a stretch makes of the boxes at source to those at target, by the word add or take.

    The boxes from fresh on hold 0 at its begin, and again at its end.
    """
    many = len(program[1])
    told = weave(stretch, program[1], program[0], list(range(source, source + many)), fresh)
    woven = (told[2], told[0])
    carried = [(word, target + at, ("box", place)) for at, place in enumerate(told[1])]
    return joined([woven, (told[2], carried), turned(woven)])


def marking_steps(stretch, program):
    """The steps that such a code takes, whatever its boxes are."""
    many = len(program[1])
    told = weave(stretch, program[1], program[0], list(range(many)), many)
    return 2 * told[3] + many

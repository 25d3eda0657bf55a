"""Programs for the tests, the same ones each time."""

import random

SIGNS = ("+", "-", "&", "|", "^", "<", "=")
WORDS = ("wide", "boxes", "choose", "else", "end", "times")
NAMES = ("a", "b", "end" + "s", "wid", "abcdefgh", "z")


def choose(condition, yes=(), no=()):
    return ("choose", condition, tuple(yes), tuple(no))


def times(rounds, *rows):
    return ("times", rounds, rows)


def random_atom(chance, boxes, top):
    if chance.random() < 0.5:
        return chance.choice(boxes)
    return chance.choice((0, 1, top - 1, chance.randrange(top)))


def random_row(chance, boxes, top, depth, most_times):
    kind = chance.choice(("is", "op", "op", "op", "choose", "times"))
    target = chance.choice(boxes)
    first = random_atom(chance, boxes, top)
    if kind == "is" or depth == 0 and kind in ("choose", "times"):
        return ("is", target, first)
    if kind == "op":
        return ("op", target, chance.choice(SIGNS), first, random_atom(chance, boxes, top))
    if kind == "choose":
        return ("choose", first, random_rows(chance, boxes, top, depth - 1, 2, most_times),
                random_rows(chance, boxes, top, depth - 1, 2, most_times))
    rounds = chance.randrange(most_times + 1)
    return ("times", rounds, random_rows(chance, boxes, top, depth - 1, 2, most_times))


def random_rows(chance, boxes, top, depth, most, most_times):
    many = chance.randrange(most + 1)
    return tuple(random_row(chance, boxes, top, depth, most_times) for count in range(many))


def good_program(seed, depth=4, most_times=3):
    """A program that check lets by."""
    chance = random.Random(seed)
    wide = chance.choice((1, 2, 3, 8, 15, 16))
    boxes = tuple(chance.sample(NAMES, chance.randrange(1, 7)))
    rows = random_rows(chance, boxes, min(2 ** wide, 65536), depth, 7, most_times)
    return (wide, boxes, rows)


def any_program(seed):
    """A program that has a text, and that check perhaps refuses."""
    chance = random.Random(seed)
    wide = chance.randrange(1, 17)
    boxes = tuple(chance.choice(NAMES) for count in range(chance.randrange(1, 7)))
    return (wide, boxes, random_rows(chance, NAMES, 65536, 5, 7, 20))


def random_state(seed, program):
    chance = random.Random(seed)
    top = 2 ** program[0]
    return [chance.choice((0, top - 1, chance.randrange(top))) for name in program[1]]

"""Programs for the tests, the same ones each time."""

import random

SIGNS = ("+", "-", "&", "|", "^", "<", "=")
WORDS = ("wide", "boxes", "choose", "else", "end", "times")
NAMES = ("a", "b", "ends", "wid", "abcdefgh", "z")


def choose(condition, yes=(), no=()):
    return ("choose", condition, tuple(yes), tuple(no))


def times(rounds, *rows):
    return ("times", rounds, rows)


def random_atom(chance, boxes, top):
    if chance.random() < 0.5:
        return chance.choice(boxes)
    return chance.choice((0, 1, top - 1, chance.randrange(top)))


def random_row(chance, boxes, top, depth, most_times):
    kind = chance.choice(("is", "op", "op", "op", "choose", "times"))
    target = chance.choice(boxes)
    first = random_atom(chance, boxes, top)
    if kind == "is" or depth == 0 and kind in ("choose", "times"):
        return ("is", target, first)
    if kind == "op":
        return ("op", target, chance.choice(SIGNS), first, random_atom(chance, boxes, top))
    if kind == "choose":
        return ("choose", first, random_rows(chance, boxes, top, depth - 1, 2, most_times),
                random_rows(chance, boxes, top, depth - 1, 2, most_times))
    rounds = chance.randrange(most_times + 1)
    return ("times", rounds, random_rows(chance, boxes, top, depth - 1, 2, most_times))


def random_rows(chance, boxes, top, depth, most, most_times):
    many = chance.randrange(most + 1)
    return tuple(random_row(chance, boxes, top, depth, most_times) for count in range(many))


def good_program(seed, depth=4, most_times=3):
    """A program that check lets by."""
    chance = random.Random(seed)
    wide = chance.choice((1, 2, 3, 8, 15, 16))
    boxes = tuple(chance.sample(NAMES, chance.randrange(1, 7)))
    rows = random_rows(chance, boxes, min(2 ** wide, 65536), depth, 7, most_times)
    return (wide, boxes, rows)


def any_program(seed):
    """A program that has a text, and that check perhaps refuses."""
    chance = random.Random(seed)
    wide = chance.randrange(1, 17)
    boxes = tuple(chance.choice(NAMES) for count in range(chance.randrange(1, 7)))
    return (wide, boxes, random_rows(chance, NAMES, 65536, 5, 7, 20))


def random_state(seed, program):
    chance = random.Random(seed)
    top = 2 ** program[0]
    return [chance.choice((0, top - 1, chance.randrange(top))) for name in program[1]]


def random_code_row(chance, size):
    """A row of code that isn't a go or a come."""
    first, second, third = chance.sample(range(size), 3)
    kind = chance.choice(("add", "take", "turn", "swap"))
    if kind in ("add", "take"):
        number = chance.choice((0, 1, 2, 2 ** 31, 2 ** 32 - 1, chance.randrange(2 ** 32)))
        return (kind, first, chance.choice((("box", second), ("num", number))))
    if kind == "swap":
        return ("swap", first, second)
    conds = ((second, chance.choice((0, 0, 1, 31))), (chance.choice((second, third)), chance.choice((0, 1, 31))))
    return ("turn", first, chance.choice((0, 1, 31)), conds[:chance.randrange(3)])


def random_code(seed, most_rows=14):
    """A code that is let by, with goes and comes in any order."""
    chance = random.Random(seed)
    size = chance.randrange(3, 6)
    rows = [random_code_row(chance, size) for count in range(chance.randrange(most_rows + 1))]
    places = list(range(len(rows)))
    chance.shuffle(places)
    for pair in range(chance.randrange(len(rows) // 2 + 1)):
        go, come = places[2 * pair], places[2 * pair + 1]
        box, number = chance.randrange(size), chance.choice((0, 0, 1, 2))
        rows[go] = ("go", box, number, come)
        rows[come] = ("come", box, number, go)
    return (size, rows)


def random_boxes(seed, size):
    chance = random.Random(seed)
    return [chance.choice((0, 0, 1, 2, 3, 2 ** 32 - 1, chance.randrange(2 ** 32))) for box in range(size)]

"""Programs for the tests, the same ones each time."""

import random

SIGNS = ("+", "-", "&", "|", "^", "<", "=")
WORDS = ("wide", "boxes", "choose", "else", "end", "times")
NAMES = ("a", "b", "ends", "wid", "abcdefgh", "z")


def choose(condition, yes=(), no=()):
    return ("choose", condition, tuple(yes), tuple(no))


def times(rounds, *rows):
    return ("times", rounds, rows)


def random_atom(chance, boxes, top):
    if chance.random() < 0.5:
        return chance.choice(boxes)
    return chance.choice((0, 1, top - 1, chance.randrange(top)))


def random_row(chance, boxes, top, depth, most_times):
    kind = chance.choice(("is", "op", "op", "op", "choose", "times"))
    target = chance.choice(boxes)
    first = random_atom(chance, boxes, top)
    if kind == "is" or depth == 0 and kind in ("choose", "times"):
        return ("is", target, first)
    if kind == "op":
        return ("op", target, chance.choice(SIGNS), first, random_atom(chance, boxes, top))
    if kind == "choose":
        return ("choose", first, random_rows(chance, boxes, top, depth - 1, 2, most_times),
                random_rows(chance, boxes, top, depth - 1, 2, most_times))
    rounds = chance.randrange(most_times + 1)
    return ("times", rounds, random_rows(chance, boxes, top, depth - 1, 2, most_times))


def random_rows(chance, boxes, top, depth, most, most_times):
    many = chance.randrange(most + 1)
    return tuple(random_row(chance, boxes, top, depth, most_times) for count in range(many))


def good_program(seed, depth=4, most_times=3):
    """A program that check lets by."""
    chance = random.Random(seed)
    wide = chance.choice((1, 2, 3, 8, 15, 16))
    boxes = tuple(chance.sample(NAMES, chance.randrange(1, 7)))
    rows = random_rows(chance, boxes, min(2 ** wide, 65536), depth, 7, most_times)
    return (wide, boxes, rows)


def any_program(seed):
    """A program that has a text, and that check perhaps refuses."""
    chance = random.Random(seed)
    wide = chance.randrange(1, 17)
    boxes = tuple(chance.choice(NAMES) for count in range(chance.randrange(1, 7)))
    return (wide, boxes, random_rows(chance, NAMES, 65536, 5, 7, 20))


def random_state(seed, program):
    chance = random.Random(seed)
    top = 2 ** program[0]
    return [chance.choice((0, top - 1, chance.randrange(top))) for name in program[1]]


def random_code_row(chance, size):
    """A row of code that isn't a go or a come."""
    first, second, third = chance.sample(range(size), 3)
    kind = chance.choice(("add", "take", "turn", "swap"))
    if kind in ("add", "take"):
        number = chance.choice((0, 1, 2, 2 ** 31, 2 ** 32 - 1, chance.randrange(2 ** 32)))
        return (kind, first, chance.choice((("box", second), ("num", number))))
    if kind == "swap":
        return ("swap", first, second)
    conds = ((second, chance.choice((0, 0, 1, 31))), (chance.choice((second, third)), chance.choice((0, 1, 31))))
    return ("turn", first, chance.choice((0, 1, 31)), conds[:chance.randrange(3)])


def random_code(seed, most_rows=14):
    """A code that is let by, with goes and comes in any order."""
    chance = random.Random(seed)
    size = chance.randrange(3, 6)
    rows = [random_code_row(chance, size) for count in range(chance.randrange(most_rows + 1))]
    places = list(range(len(rows)))
    chance.shuffle(places)
    for pair in range(chance.randrange(len(rows) // 2 + 1)):
        go, come = places[2 * pair], places[2 * pair + 1]
        box, number = chance.randrange(size), chance.choice((0, 0, 1, 2))
        rows[go] = ("go", box, number, come)
        rows[come] = ("come", box, number, go)
    return (size, rows)


def is_row_of_code(row):
    """Whether a row has the form of one, whatever its numbers."""
    forms = {"add": 3, "take": 3, "turn": 4, "swap": 3, "go": 4, "come": 4}
    if type(row) is not tuple or len(row) != forms.get(row[0]):
        return False
    numbers = list(row[1:])
    if row[0] in ("add", "take"):
        kind, number = numbers.pop()
        numbers.append(number if kind in ("box", "num") and type(row[2]) is tuple else None)
    if row[0] == "turn":
        conds = numbers.pop()
        if type(conds) is not tuple or len(conds) > 2:
            return False
        for cond in conds:
            numbers.extend(cond if type(cond) is tuple and len(cond) == 2 else [None])
    return all(type(number) is int and number >= 0 for number in numbers)


def random_boxes(seed, size):
    chance = random.Random(seed)
    return [chance.choice((0, 0, 1, 2, 3, 2 ** 32 - 1, chance.randrange(2 ** 32))) for box in range(size)]


def lay(*marks):
    return [("lay", k) for k in marks]


def clear(*marks):
    return [("clear", k) for k in marks]


def number_of(stand):
    """The number by which a set of marks is told."""
    return sum(2 ** (k - 1) for k in stand)


def moves_let(stand, n, s):
    """The lays and clears that the rules let where just the marks of a set stand."""
    told = []
    for k in range(1, n + 1):
        if k == 1 or k - 1 in stand:
            if k in stand:
                told.append(("clear", k))
            elif len(stand) < s:
                told.append(("lay", k))
    return told


def random_way(seed, n, s, many):
    """A way of so many moves by the rules, going up more often than down."""
    chance = random.Random(seed)
    way, stand = [], set()
    for count in range(many):
        moves = moves_let(stand, n, s)
        if not moves:
            break
        move = max(chance.sample(moves, min(len(moves), chance.choice((1, 2)))), key=lambda move: move[1])
        way.append(move)
        stand ^= {move[1]}
    return way


def wandering(seed, plan, n, s, many):
    """A plan into which so many ways to and fro are put, by the rules, wherever they may be."""
    chance = random.Random(seed)
    for count in range(many):
        at = chance.randrange(len(plan) + 1)
        stand = set()
        for move in plan[:at]:
            stand ^= set(move[1:])
        detour = []
        for again in range(chance.randrange(1, 5)):
            moves = moves_let(stand, n, s)
            if moves:
                detour.append(chance.choice(moves))
                stand ^= {detour[-1][1]}
        back = [("clear" if word == "lay" else "lay", k) for word, k in reversed(detour)]
        plan = plan[:at] + detour + back + plan[at:]
    return plan


def least_works(costs, s):
    """For each set of marks that ways by the rules lead to, the least work of one, by looking at all of them."""
    found = {frozenset(): 0}
    again = [frozenset()]
    while again:
        stand = again.pop()
        for kind, k in moves_let(stand, len(costs), s):
            other, sums = stand ^ {k}, found[stand] + costs[k - 1]
            if sums < found.get(other, sums + 1):
                found[other] = sums
                again.append(other)
    return found


def random_costs(seed, n):
    """Costs alike, rising, falling, or any."""
    chance = random.Random(seed)
    kind = chance.randrange(6)
    if kind == 0:
        return [chance.choice((1, 7, 10 ** 9))] * n
    if kind in (1, 2):
        rising = sorted(chance.choice((1, 2, 5, 2 ** chance.randrange(30))) for k in range(n))
        return rising if kind == 1 else rising[::-1]
    if kind == 3:
        return [chance.choice((1, 10 ** 9)) for k in range(n)]
    return [chance.randrange(1, 20) for k in range(n)]

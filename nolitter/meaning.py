"""What plain programs mean: how rows change a state."""


def run(program, numbers):
    """The numbers that the boxes hold behind a program's last row."""
    return list(through(program[2], program[1], program[0], tuple(numbers)))


def through(rows, boxes, wide, state):
    """The state that rows make of a state."""
    held = dict(zip(boxes, state))
    do_rows(rows, held, wide)
    return tuple([held[name] for name in boxes])


def do_rows(rows, held, wide):
    """Do rows in order, changing what the boxes hold."""
    for row in rows:
        if row[0] == "is":
            held[row[1]] = value_of(row[2], held)
        elif row[0] == "op":
            held[row[1]] = reckoned(row[2], value_of(row[3], held), value_of(row[4], held), wide)
        elif row[0] == "choose":
            do_rows(row[3] if value_of(row[1], held) == 0 else row[2], held, wide)
        else:
            go_round(row[1], row[2], held, wide)


def go_round(rounds, rows, held, wide):
    """Do rows so many times."""
    # Empty rounds within one another would be walked millions of times for nothing.
    if is_idle(rows):
        return
    for count in range(rounds):
        do_rows(rows, held, wide)


def is_idle(rows):
    """Whether there is nothing in rows but times that do nothing."""
    for row in rows:
        if row[0] != "times" or row[1] > 0 and not is_idle(row[2]):
            return False
    return True


def value_of(atom, held):
    """The number that an atom stands for."""
    return held[atom] if isinstance(atom, str) else atom


def reckoned(sign, first, second, wide):
    """What a sign makes of two numbers."""
    if sign == "+":
        return (first + second) % (1 << wide)
    if sign == "-":
        return (first - second) % (1 << wide)
    if sign == "&":
        return first & second
    if sign == "|":
        return first | second
    if sign == "^":
        return first ^ second
    if sign == "<":
        return 1 if first < second else 0
    return 1 if first == second else 0

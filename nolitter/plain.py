"""Plain programs: their names, what is wrong in them, how many rows they have."""

from nolitter.errors import NoBox, TooWide, TwiceNamed

LETTERS = "abcdefghijklmnopqrstuvwxyz"
LONGEST_NAME = 8
WORDS = ("wide", "boxes", "choose", "else", "end", "times")


def is_name(text):
    """Whether a text may be the name of a box."""
    if len(text) < 1 or len(text) > LONGEST_NAME or text in WORDS:
        return False
    return all([sign in LETTERS for sign in text])


def check(program):
    """Refuse a program by the first thing that is wrong in it."""
    boxes = program[1]
    check_boxes(boxes)
    check_rows(program[2], boxes, program[0])


def check_boxes(boxes):
    """Refuse the first box that is named like one ahead."""
    ahead = {}
    for name in boxes:
        if name in ahead:
            raise TwiceNamed(name)
        ahead[name] = True


def check_rows(rows, boxes, wide):
    """Refuse rows by the first wrong thing, going through them in order."""
    for row in rows:
        for atom in atoms_of(row):
            check_atom(atom, boxes, wide)
        for inner in blocks_of(row):
            check_rows(inner, boxes, wide)


def check_atom(atom, boxes, wide):
    """Refuse a name that is no box, and a number that no box can hold."""
    if isinstance(atom, str):
        if atom not in boxes:
            raise NoBox(atom)
    elif atom.bit_length() > wide:
        raise TooWide(atom)


def atoms_of(row):
    """The names and numbers of a row itself, in the order of looking."""
    if row[0] == "is":
        return [row[1], row[2]]
    if row[0] == "op":
        return [row[1], row[3], row[4]]
    if row[0] == "choose":
        return [row[1]]
    return []


def blocks_of(row):
    """The rows within a row, block by block."""
    if row[0] == "choose":
        return [row[2], row[3]]
    if row[0] == "times":
        return [row[2]]
    return []


def rows_in(rows):
    """How many rows there are, inner ones counted, those of a times once."""
    many = 0
    for row in rows:
        many += 1
        for inner in blocks_of(row):
            many += rows_in(inner)
    return many

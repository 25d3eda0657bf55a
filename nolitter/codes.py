"""Codes: whether their rows are as they must be, and how they are joined."""

from nolitter.errors import BadCode

# A box holds one of so many numbers, and has so many bits.
NUMBERS = 4294967296
BITS = 32


def check_code(code):
    """Refuse a code by the first row that isn't as it must be."""
    for at, row in enumerate(code[1]):
        if not (is_within(row, code[0]) and is_apart(row) and has_fellow(row, at, code[1])):
            raise BadCode(at)


def boxes_read(row):
    """The boxes of a row but its first one."""
    if row[0] in ("add", "take"):
        return [row[2][1]] if row[2][0] == "box" else []
    if row[0] == "turn":
        return [cond[0] for cond in row[3]]
    return [row[2]] if row[0] == "swap" else []


def bits_of(row):
    """The bits that a row speaks of."""
    return [row[2]] + [cond[1] for cond in row[3]] if row[0] == "turn" else []


def numbers_of(row):
    """The numbers of a row that a box is to hold or to be changed by."""
    if row[0] in ("add", "take"):
        return [row[2][1]] if row[2][0] == "num" else []
    return [row[2]] if row[0] in ("go", "come") else []


def is_within(row, size):
    """Whether a row's boxes, bits and numbers are small enough."""
    return (all([box < size for box in [row[1]] + boxes_read(row)])
            and all([bit < BITS for bit in bits_of(row)])
            and all([number < NUMBERS for number in numbers_of(row)]))


def is_apart(row):
    """Whether a row reads no box that it changes, so that it can be undone."""
    return row[1] not in boxes_read(row)


def has_fellow(row, at, rows):
    """Whether a go's or a come's other row stands where it says, and says so too."""
    if row[0] not in ("go", "come"):
        return True
    fellow = "come" if row[0] == "go" else "go"
    return row[3] < len(rows) and rows[row[3]] == (fellow, row[1], row[2], at)


def joined(codes):
    """One code of several, one behind the other."""
    rows = []
    for code in codes:
        ahead = len(rows)
        rows.extend([moved(row, ahead) for row in code[1]])
    return (max([code[0] for code in codes]), rows)


def moved(row, ahead):
    """A row as it stands behind so many others."""
    if row[0] in ("go", "come"):
        return (row[0], row[1], row[2], row[3] + ahead)
    return row

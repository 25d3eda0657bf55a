"""Codes as texts, written and read."""

from nolitter.codes import BITS, NUMBERS
from nolitter.errors import BadText
from nolitter.figures import number_in

# The greatest number of ten figures: of a size, a box, a row.
GREATEST = 9999999999


def show_code(code):
    """The text of a code."""
    lines = [" ".join(["size", str(code[0])])]
    lines.extend([" ".join(words_of(row)) for row in code[1]])
    return "\n".join(lines)


def words_of(row):
    """The words of a row."""
    if row[0] in ("add", "take"):
        return [row[0], str(row[1]), operand_word(row[2])]
    if row[0] == "turn":
        words = [row[0], str(row[1]), str(row[2])]
        for cond in row[3]:
            words.extend([box_word(cond[0]), str(cond[1])])
        return words
    return [row[0]] + [str(number) for number in row[1:]]


def operand_word(operand):
    """The word of an operand."""
    return box_word(operand[1]) if operand[0] == "box" else str(operand[1])


def box_word(box):
    """The word of a box that is read."""
    return "b" + str(box)


def read_code(text):
    """The code that a text is written for; else refuse it."""
    lines = text.split("\n")
    size = read_size(lines[0].split(" "))
    if size is None:
        raise BadText(0)
    rows = []
    for at, line in enumerate(lines[1:], start=1):
        row = read_row(line.split(" "))
        if row is None:
            raise BadText(at)
        rows.append(row)
    return (size, rows)


def read_size(words):
    """The size that words are written for; None where they are none."""
    return number_in(words[1], GREATEST) if len(words) == 2 and words[0] == "size" else None


def read_row(words):
    """The row that words are written for; None where they are none."""
    if words[0] in ("add", "take"):
        return read_change(words)
    if words[0] == "turn":
        return read_turn(words)
    if words[0] == "swap":
        return read_numbers(words, [GREATEST, GREATEST])
    if words[0] in ("go", "come"):
        return read_numbers(words, [GREATEST, NUMBERS - 1, GREATEST])
    return None


def read_numbers(words, mosts):
    """The row of a first word and numbers, each with the most it may be; None where words are none."""
    if len(words) != 1 + len(mosts):
        return None
    numbers = [number_in(word, most) for word, most in zip(words[1:], mosts)]
    return None if None in numbers else tuple(words[:1] + numbers)


def read_change(words):
    """The add or take that words are written for; None where they are none."""
    if len(words) != 3:
        return None
    box = number_in(words[1], GREATEST)
    operand = read_operand(words[2])
    return None if box is None or operand is None else (words[0], box, operand)


def read_operand(word):
    """The operand that a word is written for; None where it is none."""
    box = read_box(word)
    if box is not None:
        return ("box", box)
    number = number_in(word, NUMBERS - 1)
    return None if number is None else ("num", number)


def read_box(word):
    """The box that a word is written for; None where it is none."""
    return number_in(word[1:], GREATEST) if word.startswith("b") else None


def read_turn(words):
    """The turn that words are written for; None where they are none."""
    if len(words) not in (3, 5, 7):
        return None
    head = read_numbers(words[:3], [GREATEST, BITS - 1])
    conds = [read_cond(words[at], words[at + 1]) for at in range(3, len(words), 2)]
    return None if head is None or None in conds else head + (tuple(conds),)


def read_cond(box_text, bit_text):
    """The cond that two words are written for; None where they are none."""
    box = read_box(box_text)
    bit = number_in(bit_text, BITS - 1)
    return None if box is None or bit is None else (box, bit)

"""Plain programs as texts, written and read."""

from nolitter.errors import BadText
from nolitter.figures import number_in
from nolitter.plain import is_name

WIDEST = 16
MOST_BOXES = 6
MOST_TIMES = 20
GREATEST = 65535
SIGNS = ("+", "-", "&", "|", "^", "<", "=")


def show(program):
    """The text of a program."""
    lines = [" ".join(["wide", str(program[0])])]
    lines.append(" ".join(["boxes"] + list(program[1])))
    lines.extend(lines_of(program[2]))
    return "\n".join(lines)


def lines_of(rows):
    """The lines of rows, one behind the other."""
    lines = []
    for row in rows:
        lines.extend(row_lines(row))
    return lines


def row_lines(row):
    """The lines of one row, those of the rows within it too."""
    if row[0] == "is":
        return [" ".join([row[1], "=", str(row[2])])]
    if row[0] == "op":
        return [" ".join([row[1], "=", str(row[3]), row[2], str(row[4])])]
    head = " ".join([row[0], str(row[1])])
    if row[0] == "choose":
        return [head] + lines_of(row[2]) + ["else"] + lines_of(row[3]) + ["end"]
    return [head] + lines_of(row[2]) + ["end"]


class Block:
    """Rows while they are read: a program's own, or those within a choose or a times."""

    def __init__(self, head, most_ways):
        self.head = head
        self.most_ways = most_ways
        self.ways = [[]]

    def is_full(self):
        """Whether no else may follow any more."""
        return len(self.ways) == self.most_ways

    def take_in(self, row):
        """Put a row behind those that stand already."""
        self.ways[-1].append(row)

    def whole(self):
        """The tuple that is made of the head and the rows."""
        return self.head + tuple([tuple(way) for way in self.ways])


def read(text):
    """The program that a text is written for; else refuse it."""
    lines = text.split("\n")
    head = (read_wide(lines), read_boxes(lines))
    # The blocks that are open: the program's own first, the innermost last.
    blocks = [Block(head, 1)]
    for at, line in enumerate(lines):
        if at >= 2 and not take_line(line.split(" "), blocks):
            raise BadText(at)
    if len(blocks) > 1:
        raise BadText(len(lines))
    return blocks[0].whole()


def read_wide(lines):
    """The number wide, from the first line."""
    words = lines[0].split(" ")
    if len(words) != 2 or words[0] != "wide":
        raise BadText(0)
    wide = number_in(words[1], WIDEST)
    if wide is None or wide == 0:
        raise BadText(0)
    return wide


def read_boxes(lines):
    """The boxes' names, from the second line."""
    # Where that line lacks, its number is that of the lines there are.
    words = lines[1].split(" ") if len(lines) > 1 else []
    names = words[1:]
    if len(names) < 1 or len(names) > MOST_BOXES or words[0] != "boxes":
        raise BadText(1)
    if not all([is_name(name) for name in names]):
        raise BadText(1)
    return tuple(names)


def take_line(words, blocks):
    """Take a line's words in; tell whether they may stand here."""
    if words == ["else"]:
        return begin_other_way(blocks)
    if words == ["end"]:
        return close_block(blocks)
    if len(words) == 2:
        return open_block(words, blocks)
    row = read_setting(words)
    if row is None:
        return False
    blocks[-1].take_in(row)
    return True


def begin_other_way(blocks):
    """Go on with a choose's other way; tell whether that may be."""
    if blocks[-1].is_full():
        return False
    blocks[-1].ways.append([])
    return True


def close_block(blocks):
    """Put the innermost block, as a row, into the one around it; tell whether that may be."""
    if len(blocks) == 1 or not blocks[-1].is_full():
        return False
    row = blocks.pop().whole()
    blocks[-1].take_in(row)
    return True


def open_block(words, blocks):
    """Begin a choose or a times; tell whether the words are such."""
    if words[0] == "choose":
        operand = read_atom(words[1])
        ways = 2
    elif words[0] == "times":
        operand = number_in(words[1], MOST_TIMES)
        ways = 1
    else:
        return False
    if operand is None:
        return False
    blocks.append(Block((words[0], operand), ways))
    return True


def read_setting(words):
    """The is or op that words are written for; None where they are none."""
    if len(words) not in (3, 5) or not is_name(words[0]) or words[1] != "=":
        return None
    first = read_atom(words[2])
    if first is None:
        return None
    if len(words) == 3:
        return ("is", words[0], first)
    second = read_atom(words[4])
    if second is None or words[3] not in SIGNS:
        return None
    return ("op", words[0], words[3], first, second)


def read_atom(word):
    """The name or number that a word is written for; None where it is none."""
    return word if is_name(word) else number_in(word, GREATEST)

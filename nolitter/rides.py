"""Rides: codes run forth and back, step by step."""

from nolitter.codes import NUMBERS


class Ride:
    """A run of a code, at a place, with what its boxes hold there."""

    def __init__(self, code, boxes, place=0):
        self.rows = list(code[1])
        self.held = list(boxes)
        self.spot = place

    def place(self):
        """The place at which the run stands."""
        return self.spot

    def boxes(self):
        """What the boxes hold."""
        return list(self.held)

    def forth(self):
        """Do the row behind the place; tell whether that was done."""
        if not self.may_forth():
            return False
        row = self.rows[self.spot]
        if row[0] == "go" and holds(row, self.held):
            self.spot = row[3] + 1
            return True
        change(row, self.held, 1)
        self.spot += 1
        return True

    def back(self):
        """Undo the row ahead of the place; tell whether that was done."""
        if not self.may_back():
            return False
        row = self.rows[self.spot - 1]
        if row[0] == "come" and holds(row, self.held):
            self.spot = row[3]
            return True
        change(row, self.held, -1)
        self.spot -= 1
        return True

    def at_end(self):
        """Whether the run stands behind the last row."""
        return self.spot == len(self.rows)

    def at_begin(self):
        """Whether the run stands ahead of the first row."""
        return self.spot == 0

    def may_forth(self):
        """Whether a step forth would be done."""
        if self.at_end():
            return False
        row = self.rows[self.spot]
        return not (row[0] == "come" and holds(row, self.held))

    def may_back(self):
        """Whether a step back would be done."""
        if self.at_begin():
            return False
        row = self.rows[self.spot - 1]
        return not (row[0] == "go" and holds(row, self.held))


def holds(row, held):
    """Whether the box of a go or a come holds its number."""
    return held[row[1]] == row[2]


def change(row, held, way):
    """Change the boxes as a row does, or undo that where way is -1; a go and a come change none."""
    if row[0] == "add":
        held[row[1]] = (held[row[1]] + way * operand_value(row[2], held)) % NUMBERS
    elif row[0] == "take":
        held[row[1]] = (held[row[1]] - way * operand_value(row[2], held)) % NUMBERS
    elif row[0] == "turn":
        turn_bit(row, held)
    elif row[0] == "swap":
        first = held[row[1]]
        held[row[1]] = held[row[2]]
        held[row[2]] = first


def operand_value(operand, held):
    """The number that an operand stands for."""
    return held[operand[1]] if operand[0] == "box" else operand[1]


def turn_bit(row, held):
    """Turn a bit where each cond's bit is 1."""
    for cond in row[3]:
        if (held[cond[0]] >> cond[1]) & 1 == 0:
            return
    held[row[1]] = held[row[1]] ^ (1 << row[2])


def run_forth(code, boxes, most):
    """Run a code from place 0 on: the word of where it stands, the place, the boxes, the steps done."""
    ride = Ride(code, boxes)
    steps = 0
    while steps < most and ride.forth():
        steps += 1
    word = word_of(ride.at_end(), "end", ride.may_forth())
    return (word, ride.place(), ride.boxes(), steps)


def run_back(code, boxes, place, most):
    """Run a code back from a place: the word of where it stands, the place, the boxes, the steps done."""
    ride = Ride(code, boxes, place)
    steps = 0
    while steps < most and ride.back():
        steps += 1
    word = word_of(ride.at_begin(), "begin", ride.may_back())
    return (word, ride.place(), ride.boxes(), steps)


def word_of(there, there_word, may_go_on):
    """The word of where a run stands."""
    if there:
        return there_word
    return "tired" if may_go_on else "torn"

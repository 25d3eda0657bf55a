"""Plans as texts, written and read."""

from nolitter.errors import BadText
from nolitter.figures import number_in

GREATEST_MARK = 9999


def show_plan(plan):
    """The text of a plan."""
    return " ".join([move_word(move) for move in plan])


def move_word(move):
    """The word of a move."""
    if move[0] == "show":
        return "!"
    return ("+" if move[0] == "lay" else "-") + str(move[1])


def read_plan(text):
    """The plan that a text is written for; else refuse it."""
    # Parted by blanks, the text without signs would be one word, not none.
    words = text.split(" ") if text != "" else []
    plan = []
    for at, word in enumerate(words):
        move = read_move(word)
        if move is None:
            raise BadText(at)
        plan.append(move)
    return plan


def read_move(word):
    """The move that a word is written for; None where it is none."""
    if word == "!":
        return ("show",)
    k = number_in(word[1:], GREATEST_MARK)
    if k is None:
        return None
    if word[0] == "+":
        return ("lay", k)
    return ("clear", k) if word[0] == "-" else None

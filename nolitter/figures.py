"""Numbers as they are written in texts."""

FIGURES = "0123456789"


def number_in(word, most):
    """The number, from 0 to most, that a word is written for; None where it is none."""
    # The length is looked at first, since Python won't turn a very long word into a number.
    if len(word) < 1 or len(word) > len(str(most)):
        return None
    if not all([sign in FIGURES for sign in word]):
        return None
    if word[0] == "0" and len(word) > 1:
        return None
    number = int(word)
    return number if number <= most else None

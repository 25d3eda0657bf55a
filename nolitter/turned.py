"""Codes turned about: what a code does going back, the turned one does going forth."""


def turned(code):
    """The code that runs forth as a code runs back."""
    last = len(code[1]) - 1
    return (code[0], [turned_row(row, last) for row in reversed(code[1])])


def turned_row(row, last):
    """The row that does what undoing a row does, in a code whose last row has this number."""
    if row[0] == "add":
        return ("take", row[1], row[2])
    if row[0] == "take":
        return ("add", row[1], row[2])
    if row[0] == "go":
        return ("come", row[1], row[2], last - row[3])
    if row[0] == "come":
        return ("go", row[1], row[2], last - row[3])
    # A turn and a swap are undone by being done once more.
    return row

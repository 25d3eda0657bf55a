"""The refusals, one class for each."""


class LitterError(ValueError):
    """Any refusal."""


class TwiceNamed(LitterError):
    """A box is named like one ahead of it."""

    def __init__(self, name):
        LitterError.__init__(self, name)
        self.name = name


class NoBox(LitterError):
    """A row names a box that the program doesn't have."""

    def __init__(self, name):
        LitterError.__init__(self, name)
        self.name = name


class TooWide(LitterError):
    """A row has a number that the program's boxes can't hold."""

    def __init__(self, number):
        LitterError.__init__(self, number)
        self.number = number


class BadText(LitterError):
    """A text stops being one at this row or word."""

    def __init__(self, at):
        LitterError.__init__(self, at)
        self.at = at


class BadCode(LitterError):
    """A code's row is not as it must be."""

    def __init__(self, at):
        LitterError.__init__(self, at)
        self.at = at


class BadPlan(LitterError):
    """A plan's move may not be done, or the plan may not end here."""

    def __init__(self, at):
        LitterError.__init__(self, at)
        self.at = at


class BadCuts(LitterError):
    """The cuts don't cut the program's pieces."""

    def __init__(self):
        LitterError.__init__(self)


class NoRow(LitterError):
    """The desk was told what is no row of its own."""

    def __init__(self):
        LitterError.__init__(self)

"""The refusals of the program."""


class StairError(ValueError):
    """Any refusal."""


class NoBack(StairError):
    """There is not as much to be taken back."""


class NoKind(StairError):
    """What was handed in is no kind, and not give."""


class NoLevel(StairError):
    """What was handed in is no level that may be taken here."""


class NoLine(StairError):
    """What was handed in is no line of a desk."""


class NoStair(StairError):
    """A datum does not tell a stair."""


class NotDone(StairError):
    """A walk is not over yet."""


class BadText(StairError):
    """What was handed in is no text of one datum; at tells how far it could have become one."""

    def __init__(self, at):
        super().__init__(f"no text of one datum: right for {at} signs only")
        self.at = at


class Fault(StairError):
    """A fault of this word came, and nothing heeded it."""

    def __init__(self, word):
        super().__init__(f"a fault: {word}")
        self.word = word


class TooLong(StairError):
    """A line would take more steps than were let in."""

    def __init__(self, steps):
        super().__init__(f"more than {steps} steps are wanted")
        self.steps = steps


class TooHigh(StairError):
    """An up goes above the height of the stair."""

    def __init__(self, level, text):
        super().__init__(f"nothing is above level {level}")
        self.level = level
        self.text = text


class NoName(StairError):
    """Nothing is kept by this word."""

    def __init__(self, word):
        super().__init__(f"nothing is kept by {word}")
        self.word = word

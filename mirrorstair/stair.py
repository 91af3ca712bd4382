"""Stairs: levels that are told lines."""

from mirrorstair.data import data_text, read_data
from mirrorstair.errors import NoLevel
from mirrorstair.levels import TOP, Levels
from mirrorstair.machine import Run
from mirrorstair.past import want_past
from mirrorstair.values import is_number
from mirrorstair.written import written

MOST = 4000


def reader_of(kind):
    """The function to which the reader written out for a kind comes, on a stair of its own.

    What is no kind is refused by written.
    """
    run = Run(Levels({}, {}), None, read_data(written(kind)))
    return run.finish(MOST, None)


class Stair:
    """A stair, endless or of a height, and the lines that it was told."""

    def __init__(self, *, height=None):
        self.height = height
        self.steps = 0
        self.reached = 0
        self.levels = Levels({}, {})
        # What was ahead of each line that may be taken back.
        self.past = []

    def run_of(self, text):
        """A run of a line, which leaves the stair as it is until it is taken in."""
        return Run(self.levels, self.height, read_data(text))

    def take_in(self, run):
        self.settle(run.levels, self.steps + run.steps, max(self.reached, run.reached))

    def settle(self, levels, steps, reached):
        """Stand as a line left all, and keep what was ahead of it for back."""
        self.past.append((self.levels, self.steps, self.reached))
        self.levels = levels
        self.steps = steps
        self.reached = reached

    def tell(self, text, *, most=MOST):
        """Read a line at level 0, and tell the text of its value."""
        run = self.run_of(text)
        value = run.finish(most, None)
        self.take_in(run)
        return data_text(value)

    def held(self, level=0):
        """The words held at a level, with the texts of their values."""
        return self.levels.held_texts(level)

    def readers(self, level=1):
        """The kinds, and give, for which the table of a level has a reader."""
        return self.levels.reader_kinds(level)

    def back(self, *, many=1):
        """Take back the last lines that were answered."""
        want_past(self.past, many)
        if many > 0:
            self.levels, self.steps, self.reached = self.past[-many]
            del self.past[-many:]

    def write(self, level, kind):
        """Put the reader written out for a kind into the table of a level."""
        top = TOP if self.height is None else min(TOP, self.height)
        if not is_number(level) or not 1 <= level <= top:
            raise NoLevel("no level that has a table")
        levels = self.levels.with_reader(level, kind, reader_of(kind))
        self.settle(levels, self.steps, self.reached)

    def copy(self):
        """A stair of its own that was told the same lines."""
        other = Stair(height=self.height)
        other.stand_as(self)
        return other

    def stand_as(self, stair):
        """Take on all that another stair was told."""
        self.levels = stair.levels
        self.steps = stair.steps
        self.reached = stair.reached
        self.past = list(stair.past)

    def trace(self, text, *, most=MOST):
        """What a line would read and give, in order."""
        seen = []
        Run(self.levels, self.height, read_data(text)).finish(most, seen)
        return seen

    def needed(self, text, *, most=MOST):
        """The greatest level at which a line would read or give on an endless stair."""
        run = Run(self.levels, None, read_data(text))
        run.finish(most, None)
        return run.reached

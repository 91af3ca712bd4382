"""Stairs: levels that are told lines."""

from mirrorstair.data import data_text, read_data
from mirrorstair.errors import NoBack, NoLevel
from mirrorstair.levels import Levels
from mirrorstair.machine import Run
from mirrorstair.values import is_number
from mirrorstair.written import written

MOST = 4000
# The greatest level into whose table a reader is written.
TOP = 12


def reader_of(kind):
    """The function to which the reader written out for a kind comes, on a stair of its own.

    What is no kind is refused by written.
    """
    run = Run(Levels(), None, read_data(written(kind)))
    return run.finish(MOST, None)


class Stair:
    """A stair, endless or of a height, and the lines that it was told."""

    def __init__(self, *, height=None):
        self.height = height
        self.steps = 0
        self.reached = 0
        # Levels are never changed once they stand here or in the past, so copies share them.
        self.levels = Levels()
        self.past = []

    def run_of(self, text, height):
        return Run(self.levels.copy(), height, read_data(text))

    def settle(self, levels, steps, reached):
        """Take in what a line left, and keep what was ahead of it for back."""
        self.past.append((self.levels, self.steps, self.reached))
        self.levels = levels
        self.steps = steps
        self.reached = reached

    def tell(self, text, *, most=MOST):
        """Read a line at level 0, and tell the text of its value."""
        run = self.run_of(text, self.height)
        value = run.finish(most, None)
        self.settle(run.levels, self.steps + run.steps, max(self.reached, run.reached))
        return data_text(value)

    def held(self, level=0):
        """The words held at a level, with the texts of their values."""
        words = self.levels.words_at(level)
        return {word: data_text(words[word]) for word in sorted(words)}

    def readers(self, level=1):
        """The kinds, and give, for which the table of a level has a reader."""
        return sorted(self.levels.table_at(level))

    def back(self, *, many=1):
        """Take back the last lines that were answered."""
        if not is_number(many) or not 0 <= many <= len(self.past):
            raise NoBack("there are not as many lines to be taken back")
        if many > 0:
            self.levels, self.steps, self.reached = self.past[-many]
            del self.past[-many:]

    def write(self, level, kind):
        """Put the reader written out for a kind into the table of a level."""
        top = TOP if self.height is None else min(TOP, self.height)
        if not is_number(level) or not 1 <= level <= top:
            raise NoLevel("no level that has a table")
        reader = reader_of(kind)
        levels = self.levels.copy()
        levels.change(level, kind, reader)
        self.settle(levels, self.steps, self.reached)

    def copy(self):
        """A stair of its own that was told the same lines."""
        other = Stair(height=self.height)
        other.steps = self.steps
        other.reached = self.reached
        other.levels = self.levels
        other.past = list(self.past)
        return other

    def trace(self, text, *, most=MOST):
        """What a line would read and give, in order."""
        rows = []
        self.run_of(text, self.height).finish(most, rows)
        return rows

    def needed(self, text, *, most=MOST):
        """The greatest level at which a line would read or give on an endless stair."""
        run = self.run_of(text, None)
        run.finish(most, None)
        return run.reached

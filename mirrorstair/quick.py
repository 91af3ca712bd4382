"""The quick machine: stairs that keep rows of what they read."""

from mirrorstair.data import read_data
from mirrorstair.machine import Run
from mirrorstair.orders import GIVE
from mirrorstair.rows import Numbers, Rows
from mirrorstair.stair import Stair


class QuickRun(Run):
    """A run that finds by rows how things are read."""

    def __init__(self, levels, height, thing, rows):
        super().__init__(levels, height, thing)
        self.rows = rows

    def next_way(self):
        what, level, thing, beside = self.order
        if what == GIVE:
            return super().next_way()
        return self.rows.row_of(self.levels, level, thing)

    def change(self, level, kind, reader):
        ahead = self.levels.tables
        super().change(level, kind, reader)
        if self.levels.tables != ahead:
            self.rows.forget()


class Quick(Stair):
    """A stair that makes rows of what it reads, and keeps them."""

    def __init__(self, *, height=None):
        super().__init__(height=height)
        self.rows = Rows(Numbers())

    def made(self):
        """How many rows were made."""
        return self.rows.many

    def run_of(self, text):
        # A copy of the rows, so that those of a line that is refused go with it.
        return QuickRun(self.levels, self.height, read_data(text), self.rows.copy())

    def take_in(self, run):
        super().take_in(run)
        self.rows = run.rows

    def forget_rows(self, tables):
        """Forget the rows where the tables are no more those."""
        if self.levels.tables != tables:
            self.rows.forget()

    def back(self, *, many=1):
        """Take back the last lines that were answered."""
        ahead = self.levels.tables
        super().back(many=many)
        self.forget_rows(ahead)

    def write(self, level, kind):
        """Put the reader written out for a kind into the table of a level."""
        ahead = self.levels.tables
        super().write(level, kind)
        self.forget_rows(ahead)

    def copy(self):
        """A quick stair of its own that was told the same lines, with no rows made yet."""
        other = Quick(height=self.height)
        other.stand_as(self)
        return other

"""The plain machine: a line that is read, step by step."""

from mirrorstair.data import data_text, kind_of
from mirrorstair.errors import Fault, TooLong
from mirrorstair.handed import hand_values
from mirrorstair.orders import FAULT, GIVE, HAND, PLAIN, READ, VALUE
from mirrorstair.plainly import go_on, heed_fault, read_plainly


class Run:
    """A thing that is read at level 0 in the empty room.

    It changes the levels that it is handed, and keeps what waits in frames of its own, so that
    things within one another may be as many as steps.
    """

    def __init__(self, levels, height, thing):
        self.levels = levels
        self.height = height
        self.frames = []
        self.order = (READ, 0, thing, ())
        self.steps = 0
        self.reached = 0

    def is_over(self):
        return self.order[0] == VALUE or self.order[0] == FAULT

    def next_kind(self):
        what, level, thing, beside = self.order
        if what == GIVE:
            return "give"
        return kind_of(thing)

    def next_reader(self, kind):
        """The reader in the table above for the next step, None where it is done plainly."""
        return self.levels.table_at(self.order[1] + 1).get(kind)

    def next_step(self):
        """The next step as a trace tells it."""
        what, level, thing, beside = self.order
        kind = self.next_kind()
        by = "plain" if self.next_reader(kind) is None else "table"
        if what == GIVE:
            thing = (thing,) + beside
        return (level, kind, by, data_text(thing))

    def advance(self):
        """Do the next step and all that follows it, up to the one behind it."""
        what, level, thing, beside = self.order
        reader = self.next_reader(self.next_kind())
        self.steps += 1
        self.reached = max(self.reached, level)
        if reader is not None:
            self.order = (GIVE, level + 1, reader, (thing, beside))
        elif what == GIVE:
            self.follow((HAND, level, thing, beside))
        else:
            self.follow((PLAIN, level, thing, beside))

    def follow(self, order):
        """Do what is no step, up to the next step or the end."""
        while order[0] == PLAIN or order[0] == HAND or (order[0] == VALUE and self.frames):
            try:
                order = self.move(order)
            except Fault as fault:
                order = heed_fault(self, fault.word)
        self.order = order

    def move(self, order):
        what, level, thing, beside = order
        if what == PLAIN:
            return read_plainly(self, level, thing, beside)
        if what == HAND:
            return hand_values(self, level, thing, beside)
        return go_on(self, thing)

    def finish(self, most, rows):
        """Do all steps, at most as many as told, and tell the value.

        What each step is goes into rows, where that is a list.
        """
        while not self.is_over():
            if self.steps >= most:
                raise TooLong(most)
            if rows is not None:
                rows.append(self.next_step())
            self.advance()
        if self.order[0] == FAULT:
            raise Fault(self.order[2])
        return self.order[2]

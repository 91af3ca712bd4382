"""The plain machine: a line that is read, step by step."""

from mirrorstair.data import data_text, kind_of
from mirrorstair.errors import Fault, TooLong
from mirrorstair.handed import hand_values
from mirrorstair.orders import FAULT, GIVE, HAND, PLAIN, READ, VALUE
from mirrorstair.plainly import go_on, heed_fault, read_plainly


class Run:
    """A thing that is read at level 0 in the empty room.

    It keeps what waits in frames of its own, so that things within one another may be as many as
    steps. Its levels, frames and orders are never changed, only put in the place of others, so a
    copy shares them.
    """

    def __init__(self, levels, height, thing):
        self.levels = levels
        self.height = height
        self.frames = None
        self.order = (READ, 0, thing, ())
        self.steps = 0
        self.reached = 0

    def copy(self):
        """A run of its own that did the same steps."""
        other = Run(self.levels, self.height, ())
        other.frames = self.frames
        other.order = self.order
        other.steps = self.steps
        other.reached = self.reached
        return other

    def is_over(self):
        return self.order[0] == VALUE or self.order[0] == FAULT

    def next_way(self):
        """The kind of the next step, and the reader in the table above for it, None where it is done plainly."""
        what, level, thing, beside = self.order
        kind = "give" if what == GIVE else kind_of(thing)
        return kind, self.levels.table_at(level + 1).get(kind)

    def next_step(self):
        """The next step as a trace tells it."""
        what, level, thing, beside = self.order
        kind, reader = self.next_way()
        if what == GIVE:
            thing = (thing,) + beside
        return (level, kind, "plain" if reader is None else "table", data_text(thing))

    def advance(self):
        """Do the next step and all that follows it, up to the one behind it."""
        what, level, thing, beside = self.order
        kind, reader = self.next_way()
        self.steps += 1
        self.reached = max(self.reached, level)
        if reader is not None:
            self.order = (GIVE, level + 1, reader, (thing, beside))
        elif what == GIVE:
            self.follow((HAND, level, thing, beside))
        else:
            self.follow((PLAIN, level, thing, beside))

    def follow(self, order):
        """Do what is no step, up to the next step or the end."""
        while order[0] == PLAIN or order[0] == HAND or (order[0] == VALUE and self.frames is not None):
            try:
                order = self.move(order)
            except Fault as fault:
                order = heed_fault(self, fault.word)
        self.order = order

    def move(self, order):
        what, level, thing, beside = order
        if what == PLAIN:
            return read_plainly(self, level, thing, beside)
        if what == HAND:
            return hand_values(self, level, thing, beside)
        return go_on(self, thing)

    def change(self, level, kind, reader):
        """Put a reader into the table of a level; False takes it out."""
        self.levels = self.levels.with_reader(level, kind, reader)

    def outcome(self):
        """The value of a line that is over; refused where a fault ended it."""
        if self.order[0] == FAULT:
            raise Fault(self.order[2])
        return self.order[2]

    def finish(self, most, seen):
        """Do all steps, at most as many as told, and tell the value.

        What each step is goes into seen, where that is a list.
        """
        while not self.is_over():
            if self.steps >= most:
                raise TooLong(most)
            if seen is not None:
                seen.append(self.next_step())
            self.advance()
        return self.outcome()

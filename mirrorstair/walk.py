"""Lines walked step by step."""

from mirrorstair.data import data_text, read_data
from mirrorstair.errors import NotDone
from mirrorstair.machine import Run
from mirrorstair.past import want_past


class Walk:
    """A line that is told, step by step, to a copy of a stair as it is now."""

    def __init__(self, stair, text):
        self.text = text
        # The copy is only looked at, so the walk may share its levels.
        self.start = stair.copy()
        self.run = Run(self.start.levels, self.start.height, read_data(text))
        self.steps = 0
        # The runs as they were ahead of each step.
        self.past = []

    def step(self):
        """Do the next step, and tell it as a trace does; None where none is left."""
        if self.over():
            return None
        told = self.run.next_step()
        # The step is done on a copy: a refusal in its middle leaves all as it is.
        run = self.run.copy()
        run.advance()
        self.past.append(self.run)
        self.run = run
        self.steps += 1
        return told

    def over(self):
        """Whether no step is left."""
        return self.run.is_over()

    def want_over(self):
        if not self.over():
            raise NotDone("there are steps left")

    def answer(self):
        """The text of the value to which the line came."""
        self.want_over()
        return data_text(self.run.outcome())

    def back(self, *, many=1):
        """Take back the last steps."""
        want_past(self.past, many)
        if many > 0:
            self.run = self.past[-many]
            del self.past[-many:]
            self.steps -= many

    def copy(self):
        """A walk of its own that did the same steps."""
        other = Walk(self.start, self.text)
        other.run = self.run
        other.steps = self.steps
        other.past = list(self.past)
        return other

    def waiting(self):
        """What waits for a value, the innermost first, each with its level."""
        found = []
        frame = self.run.frames
        while frame is not None:
            found.append((frame.level, frame.word))
            frame = frame.outer
        return found

    def held(self, level=0):
        """The words held at a level by now, with the texts of their values."""
        return self.run.levels.held_texts(level)

    def readers(self, level=1):
        """The kinds, and give, for which the table of a level has a reader by now."""
        return self.run.levels.reader_kinds(level)

    def settled(self):
        """A copy of the stair with the line more."""
        self.want_over()
        # Looked at for a fault, which is refused as an answer would be.
        self.run.outcome()
        stair = self.start.copy()
        stair.tell(self.text, most=self.steps)
        return stair

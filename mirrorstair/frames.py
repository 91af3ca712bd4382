"""What waits for a value while a line is read."""

from mirrorstair.orders import READ


class Frame:
    """A thing that waits for the value of one of its parts.

    The word tells what is done with the value; at is the place of the part that is being read, done
    the values that came ahead of it, as a pair of the last one and those ahead, or None. outer is
    the frame around this one, or None. Frames are never changed, so that those of an earlier step
    stay as they were.
    """

    def __init__(self, word, level, thing, room, at, done, outer):
        self.word = word
        self.level = level
        self.thing = thing
        self.room = room
        self.at = at
        self.done = done
        self.outer = outer


def wait_for(run, word, level, thing, room, at, done):
    """The order to read one part of a thing, which waits for its value."""
    run.frames = Frame(word, level, thing, room, at, done, run.frames)
    return (READ, level, thing[at], room)


def collected(done):
    """The values of a frame as a list, the first one first."""
    found = []
    while done is not None:
        value, done = done
        found.append(value)
    return tuple(found[::-1])

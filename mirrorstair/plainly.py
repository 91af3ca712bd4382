"""Reading plainly, kind by kind, and going on where a value comes to what waits for it.

What waits is a frame (word, level, thing, room, values), the innermost one last in the run's frames.
Each function tells the next order.
"""

from mirrorstair.data import data_text, kind_of
from mirrorstair.errors import Fault, TooHigh
from mirrorstair.names import name_value
from mirrorstair.orders import FAULT, GIVE, READ, told
from mirrorstair.shapes import function_of, want_shape


def read_fixed(run, level, thing, room):
    return told(thing)


def read_name(run, level, thing, room):
    return told(name_value(run.levels, level, thing, room))


def read_say(run, level, thing, room):
    want_shape(thing, "say")
    return told(thing[1])


def wait_for_part(run, kind, level, thing, room, at):
    """Read one part of a list of one of the seven words; the list waits for its value."""
    want_shape(thing, kind)
    run.frames.append((kind, level, thing, room, []))
    return (READ, level, thing[at], room)


def read_if(run, level, thing, room):
    return wait_for_part(run, "if", level, thing, room, 1)


def read_fun(run, level, thing, room):
    return told(function_of(thing, room))


def read_let(run, level, thing, room):
    return wait_for_part(run, "let", level, thing, room, 2)


def read_hold(run, level, thing, room):
    return wait_for_part(run, "hold", level, thing, room, 2)


def read_heed(run, level, thing, room):
    return wait_for_part(run, "heed", level, thing, room, 1)


def read_up(run, level, thing, room):
    # The shape goes first: an up that is none wants no level above.
    want_shape(thing, "up")
    if level == run.height:
        raise TooHigh(level, data_text(thing))
    return (READ, level + 1, thing[1], ())


def read_put(run, level, thing, room):
    run.frames.append(("put", level, thing, room, []))
    return (READ, level, thing[0], room)


READS = {
    "fixed": read_fixed, "name": read_name, "say": read_say, "if": read_if, "fun": read_fun,
    "let": read_let, "hold": read_hold, "heed": read_heed, "up": read_up, "put": read_put,
}


def read_plainly(run, level, thing, room):
    """Read a thing at a level by its kind, whatever the tables say."""
    action = READS[kind_of(thing)]
    return action(run, level, thing, room)


def after_if(run, frame, value):
    word, level, thing, room, values = frame
    if value is True:
        return (READ, level, thing[2], room)
    if value is False:
        return (READ, level, thing[3], room)
    raise Fault("choice")


def after_let(run, frame, value):
    word, level, thing, room, values = frame
    return (READ, level, thing[3], ((thing[1], value),) + room)


def after_hold(run, frame, value):
    word, level, thing, room, values = frame
    run.levels.keep(level, thing[1], value)
    return told(value)


def after_heed(run, frame, value):
    return told(value)


def after_heeded(run, frame, value):
    # The thing of this frame is the word of the fault.
    word, level, thing, room, values = frame
    return (GIVE, level, value, (thing,))


def next_part(run, frame):
    """Wait on for the next part of a list of which some are read."""
    word, level, thing, room, values = frame
    run.frames.append(frame)
    return (READ, level, thing[len(values)], room)


def after_put(run, frame, value):
    word, level, thing, room, values = frame
    values.append(value)
    if len(values) < len(thing):
        return next_part(run, frame)
    return (GIVE, level, values[0], tuple(values[1:]))


def after_reads(run, frame, value):
    word, level, thing, room, values = frame
    values.append(value)
    if len(values) < len(thing):
        return next_part(run, frame)
    return told(tuple(values))


AFTER = {
    "if": after_if, "let": after_let, "hold": after_hold, "heed": after_heed,
    "heeded": after_heeded, "put": after_put, "reads": after_reads,
}


def go_on(run, value):
    """Hand a value to the innermost that waits for one."""
    frame = run.frames.pop()
    action = AFTER[frame[0]]
    return action(run, frame, value)


def heed_fault(run, fault):
    """Go on behind a fault of this word at the nearest heed around; where there is none, end."""
    while run.frames:
        word, level, thing, room, values = run.frames.pop()
        if word == "heed":
            run.frames.append(("heeded", level, fault, room, []))
            return (READ, level, thing[2], room)
    return (FAULT, 0, fault, ())

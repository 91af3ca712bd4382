"""Reading plainly, kind by kind, and going on where a value comes to what waits for it.

Each function tells the next order.
"""

from mirrorstair.data import data_text, kind_of
from mirrorstair.errors import Fault, TooHigh
from mirrorstair.frames import collected, wait_for
from mirrorstair.names import name_value
from mirrorstair.orders import FAULT, GIVE, READ, told
from mirrorstair.shapes import function_of, want_shape


def read_fixed(run, level, thing, room):
    return told(thing)


def read_name(run, level, thing, room):
    return told(name_value(run.levels, level, thing, room))


def read_say(run, level, thing, room):
    want_shape(thing, "say")
    return told(thing[1])


def read_if(run, level, thing, room):
    want_shape(thing, "if")
    return wait_for(run, "if", level, thing, room, 1, None)


def read_fun(run, level, thing, room):
    return told(function_of(thing, room))


def read_let(run, level, thing, room):
    want_shape(thing, "let")
    return wait_for(run, "let", level, thing, room, 2, None)


def read_hold(run, level, thing, room):
    want_shape(thing, "hold")
    return wait_for(run, "hold", level, thing, room, 2, None)


def read_heed(run, level, thing, room):
    want_shape(thing, "heed")
    return wait_for(run, "heed", level, thing, room, 1, None)


def read_up(run, level, thing, room):
    # The shape goes first: an up that is none wants no level above.
    want_shape(thing, "up")
    if level == run.height:
        raise TooHigh(level, data_text(thing))
    return (READ, level + 1, thing[1], ())


def read_put(run, level, thing, room):
    return wait_for(run, "put", level, thing, room, 0, None)


READS = {
    "fixed": read_fixed, "name": read_name, "say": read_say, "if": read_if, "fun": read_fun,
    "let": read_let, "hold": read_hold, "heed": read_heed, "up": read_up, "put": read_put,
}


def read_plainly(run, level, thing, room):
    """Read a thing at a level by its kind, whatever the tables say."""
    action = READS[kind_of(thing)]
    return action(run, level, thing, room)


def after_if(run, frame, value):
    if value is True:
        return (READ, frame.level, frame.thing[2], frame.room)
    if value is False:
        return (READ, frame.level, frame.thing[3], frame.room)
    raise Fault("choice")


def after_let(run, frame, value):
    room = ((frame.thing[1], value),) + frame.room
    return (READ, frame.level, frame.thing[3], room)


def after_hold(run, frame, value):
    run.levels = run.levels.with_word(frame.level, frame.thing[1], value)
    return told(value)


def after_heed(run, frame, value):
    return told(value)


def after_heeded(run, frame, value):
    # What such a frame had ahead is the word of the fault.
    return (GIVE, frame.level, value, collected(frame.done))


def is_last(frame):
    return frame.at + 1 == len(frame.thing)


def next_part(run, frame, done):
    """Wait on for the next part of a list of which some are read."""
    return wait_for(run, frame.word, frame.level, frame.thing, frame.room, frame.at + 1, done)


def after_put(run, frame, value):
    done = (value, frame.done)
    if not is_last(frame):
        return next_part(run, frame, done)
    values = collected(done)
    return (GIVE, frame.level, values[0], values[1:])


def after_reads(run, frame, value):
    done = (value, frame.done)
    if not is_last(frame):
        return next_part(run, frame, done)
    return told(collected(done))


AFTER = {
    "if": after_if, "let": after_let, "hold": after_hold, "heed": after_heed,
    "heeded": after_heeded, "put": after_put, "reads": after_reads,
}


def go_on(run, value):
    """Hand a value to the innermost that waits for one."""
    frame = run.frames
    run.frames = frame.outer
    action = AFTER[frame.word]
    return action(run, frame, value)


def heed_fault(run, fault):
    """Go on behind a fault of this word at the nearest heed around; where there is none, end."""
    frame = run.frames
    while frame is not None and frame.word != "heed":
        frame = frame.outer
    if frame is None:
        run.frames = None
        return (FAULT, 0, fault, ())
    run.frames = frame.outer
    return wait_for(run, "heeded", frame.level, frame.thing, frame.room, 2, (fault, None))

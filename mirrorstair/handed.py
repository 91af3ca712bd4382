"""What functions and built-in ones do with the values that they are handed.

Each action takes the run, the level and the values, already counted, and tells the next order.
"""

from mirrorstair.errors import Fault
from mirrorstair.frames import wait_for
from mirrorstair.levels import is_kind
from mirrorstair.names import TAKES, TAKES_BELOW, name_value
from mirrorstair.orders import GIVE, HAND, PLAIN, READ, told
from mirrorstair.shapes import function_of
from mirrorstair.values import SORTS, Built, Fun, has_fun, is_fun, is_list, is_number, is_room, is_word, same, sort_of

# The least number that has more than 40 figures.
GREAT = 10 ** 40


def want_sort(right):
    if not right:
        raise Fault("sort")


def want_room(value):
    if not is_room(value):
        raise Fault("room")


def want_numbers(values):
    want_sort(is_number(values[0]) and is_number(values[1]))


def told_number(number):
    if abs(number) >= GREAT:
        raise Fault("great")
    return told(number)


def do_plus(run, level, values):
    want_numbers(values)
    return told_number(values[0] + values[1])


def do_minus(run, level, values):
    want_numbers(values)
    return told_number(values[0] - values[1])


def do_times(run, level, values):
    want_numbers(values)
    return told_number(values[0] * values[1])


def do_less(run, level, values):
    want_numbers(values)
    return told(values[0] < values[1])


def do_alike(run, level, values):
    want_sort(not has_fun(values))
    return told(same(values[0], values[1]))


def want_part(value):
    want_sort(is_list(value) and len(value) > 0)


def do_first(run, level, values):
    want_part(values[0])
    return told(values[0][0])


def do_rest(run, level, values):
    want_part(values[0])
    return told(values[0][1:])


def do_join(run, level, values):
    value, parts = values
    want_sort(is_list(parts))
    return told((value,) + parts)


def do_count(run, level, values):
    want_sort(is_list(values[0]))
    return told(len(values[0]))


def do_part(run, level, values):
    parts, at = values
    want_sort(is_list(parts) and is_number(at))
    want_sort(0 <= at < len(parts))
    return told(parts[at])


def do_is(run, level, values):
    word, value = values
    want_sort(is_word(word) and word in SORTS)
    return told(sort_of(value) == word)


def do_fault(run, level, values):
    want_sort(is_word(values[0]))
    raise Fault(values[0])


def do_here(run, level, values):
    thing, room = values
    want_room(room)
    return (READ, level, thing, room)


def do_read(run, level, values):
    thing, room = values
    want_room(room)
    return (READ, level - 1, thing, room)


def do_plain(run, level, values):
    thing, room = values
    want_room(room)
    return (PLAIN, level - 1, thing, room)


def do_reads(run, level, values):
    things, room = values
    want_sort(is_list(things))
    want_room(room)
    if not things:
        return told(())
    return wait_for(run, "reads", level - 1, things, room, 0, None)


def do_give(run, level, values):
    value, others = values
    want_sort(is_list(others))
    return (GIVE, level - 1, value, others)


def do_hand(run, level, values):
    value, others = values
    want_sort(is_list(others))
    return (HAND, level - 1, value, others)


def do_made(run, level, values):
    thing, room = values
    want_room(room)
    return told(function_of(thing, room))


def do_look(run, level, values):
    word, room = values
    want_sort(is_word(word))
    want_room(room)
    return told(name_value(run.levels, level - 1, word, room))


def do_keep(run, level, values):
    word, value = values
    want_sort(is_word(word))
    run.levels = run.levels.with_word(level - 1, word, value)
    return told(value)


def do_change(run, level, values):
    kind, value = values
    want_sort(is_kind(kind) and (is_fun(value) or value is False))
    run.change(level, kind, value)
    return told(value)


def do_reader(run, level, values):
    want_sort(is_kind(values[0]))
    return told(run.levels.table_at(level).get(values[0], False))


ACTIONS = {
    "plus": do_plus, "minus": do_minus, "times": do_times, "less": do_less, "alike": do_alike,
    "first": do_first, "rest": do_rest, "join": do_join, "count": do_count, "part": do_part,
    "is": do_is, "fault": do_fault, "here": do_here, "read": do_read, "plain": do_plain,
    "reads": do_reads, "give": do_give, "hand": do_hand, "made": do_made, "look": do_look,
    "keep": do_keep, "change": do_change, "reader": do_reader,
}


def want_count(right):
    if not right:
        raise Fault("count")


def hand_fun(level, fun, others):
    want_count(len(others) == len(fun.words))
    return (READ, level, fun.body, tuple(zip(fun.words, others)) + fun.room)


def hand_built(run, level, word, others):
    if word in TAKES:
        want_count(len(others) == TAKES[word])
    else:
        want_count(len(others) == TAKES_BELOW[word])
        if level == 0:
            raise Fault("ground")
    action = ACTIONS[word]
    return action(run, level, others)


def hand_values(run, level, value, others):
    """Hand a value some others at a level, whatever the tables say."""
    if isinstance(value, Fun):
        return hand_fun(level, value, others)
    if isinstance(value, Built):
        return hand_built(run, level, value.word, others)
    raise Fault("sort")

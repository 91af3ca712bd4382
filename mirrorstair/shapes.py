"""The shapes that lists of the seven words have."""

from mirrorstair.data import PARTS, kind_of
from mirrorstair.errors import Fault
from mirrorstair.values import Fun, are_unlike_words, is_word


def is_shaped(thing, kind):
    """Whether a list of one of the seven words is as it is to be written."""
    if len(thing) != PARTS[kind]:
        return False
    if kind == "fun":
        return are_unlike_words(thing[1])
    if kind == "let" or kind == "hold":
        return is_word(thing[1])
    return True


def want_shape(thing, kind):
    if not is_shaped(thing, kind):
        raise Fault("shape")


def function_of(thing, room):
    """The function that a fun makes in a room."""
    if kind_of(thing) != "fun":
        raise Fault("shape")
    want_shape(thing, "fun")
    return Fun(thing[1], thing[2], room)

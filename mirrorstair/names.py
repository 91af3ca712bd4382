"""The words of the built-in ones, and what a name comes to."""

from mirrorstair.errors import Fault
from mirrorstair.values import Built

# How many values each built-in one takes; those of the second dict work on the level below.
TAKES = {
    "plus": 2, "minus": 2, "times": 2, "less": 2, "alike": 2, "first": 1, "rest": 1, "join": 2,
    "count": 1, "part": 2, "is": 2, "fault": 1, "here": 2,
}
TAKES_BELOW = {
    "read": 2, "plain": 2, "reads": 2, "give": 2, "hand": 2, "made": 2, "look": 2, "keep": 2,
    "change": 2, "reader": 1,
}


def is_built_word(word):
    return word in TAKES or word in TAKES_BELOW


def name_value(levels, level, word, room):
    """What a word comes to at a level, in a room."""
    for pair in room:
        if pair[0] == word:
            return pair[1]
    words = levels.words_at(level)
    if word in words:
        return words[word]
    if is_built_word(word):
        return Built(word)
    raise Fault("unknown")

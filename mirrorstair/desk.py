"""A desk, which keeps stairs by words and is told lines.

Each action takes the desk and the pieces of the line, its first word first, and tells the answer.
"""

from mirrorstair.errors import NoBack, NoLevel, NoLine, NoName
from mirrorstair.levels import TOP
from mirrorstair.quick import Quick
from mirrorstair.stair import Stair

LETTERS = 8
FIGURES = 3
# The pieces of each line behind its first word.
PIECES = {
    "new": ("word", "height"), "quick": ("word",), "tell": ("word", "line"), "held": ("word", "number"),
    "readers": ("word", "number"), "write": ("word", "number", "kind"), "back": ("word", "number"),
    "twin": ("word", "word"), "steps": ("word",), "reached": ("word",), "needed": ("word", "line"),
    "drop": ("word",), "undo": (),
}
# The lines that ask for no stair kept by their word.
FREE = ("new", "quick", "undo")


def is_short_word(piece):
    return 1 <= len(piece) <= LETTERS and all(["a" <= sign <= "z" for sign in piece])


def is_short_number(piece):
    if not 1 <= len(piece) <= FIGURES or not all(["0" <= sign <= "9" for sign in piece]):
        return False
    return piece == "0" or not piece.startswith("0")


def is_height(piece):
    return piece == "-" or is_short_number(piece)


def is_line(piece):
    return len(piece) > 0


def is_any(piece):
    return True


CHECKS = {
    "word": is_short_word, "number": is_short_number, "height": is_height, "line": is_line, "kind": is_any,
}


def is_piece(sort, piece):
    check = CHECKS[sort]
    return check(piece)


def want_line(right):
    if not right:
        raise NoLine("no line of a desk")


def pieces_of(line):
    """The pieces of a line; what is no line is refused."""
    want_line(isinstance(line, str))
    first = line.partition(" ")[0]
    want_line(first in PIECES)
    sorts = PIECES[first]
    # All that stands behind the last blank that parts a line is its last piece, with the blanks in it.
    pieces = line.split(" ", len(sorts)) if "line" in sorts else line.split(" ")
    want_line(len(pieces) == 1 + len(sorts))
    want_line(all([is_piece(sort, piece) for sort, piece in zip(sorts, pieces[1:])]))
    return pieces


def level_of(piece):
    level = int(piece)
    if level > TOP:
        raise NoLevel("no level up to the greatest")
    return level


def texts_line(texts):
    return " ".join(texts) if texts else "-"


def do_new(desk, pieces):
    first, word, piece = pieces
    height = None if piece == "-" else level_of(piece)
    desk.put(first, word, Stair(height=height))
    return "ok"


def do_quick(desk, pieces):
    first, word = pieces
    desk.put(first, word, Quick())
    return "ok"


def do_tell(desk, pieces):
    first, word, line = pieces
    stair = desk.kept[word]
    ahead = stair.copy()
    answer = stair.tell(line)
    desk.note(first, word, ahead)
    return answer


def do_held(desk, pieces):
    first, word, piece = pieces
    found = desk.kept[word].held(level_of(piece))
    return texts_line([f"{name}={found[name]}" for name in found])


def do_readers(desk, pieces):
    first, word, piece = pieces
    return texts_line(desk.kept[word].readers(level_of(piece)))


def do_write(desk, pieces):
    first, word, piece, kind = pieces
    stair = desk.kept[word]
    ahead = stair.copy()
    stair.write(int(piece), kind)
    desk.note(first, word, ahead)
    return "ok"


def do_back(desk, pieces):
    first, word, piece = pieces
    stair = desk.kept[word]
    ahead = stair.copy()
    stair.back(many=int(piece))
    desk.note(first, word, ahead)
    return "ok"


def do_twin(desk, pieces):
    first, word, new = pieces
    desk.put(first, new, desk.kept[word].copy())
    return "ok"


def do_steps(desk, pieces):
    first, word = pieces
    return str(desk.kept[word].steps)


def do_reached(desk, pieces):
    first, word = pieces
    return str(desk.kept[word].reached)


def do_needed(desk, pieces):
    first, word, line = pieces
    return str(desk.kept[word].needed(line))


def do_drop(desk, pieces):
    first, word = pieces
    desk.put(first, word, None)
    return "ok"


def do_undo(desk, pieces):
    if not desk.doings:
        raise NoBack("there is nothing to undo")
    first, word, ahead = desk.doings.pop()
    desk.place(word, ahead)
    return first


ACTIONS = {
    "new": do_new, "quick": do_quick, "tell": do_tell, "held": do_held, "readers": do_readers,
    "write": do_write, "back": do_back, "twin": do_twin, "steps": do_steps, "reached": do_reached,
    "needed": do_needed, "drop": do_drop, "undo": do_undo,
}


class Desk:
    """Stairs kept by words, at first none."""

    def __init__(self):
        self.kept = {}
        # What may be undone: the first word of each line, the word whose stair it changed, and that
        # stair as it was ahead, None where there was none.
        self.doings = []

    def tell(self, line):
        """Do as a line says, and answer it."""
        pieces = pieces_of(line)
        if pieces[0] not in FREE and pieces[1] not in self.kept:
            raise NoName(pieces[1])
        action = ACTIONS[pieces[0]]
        return action(self, pieces)

    def note(self, first, word, ahead):
        """Keep for undo what was ahead of a line."""
        self.doings.append((first, word, ahead))

    def put(self, first, word, stair):
        """Keep a stair by a word in the place of what it kept; None is no stair."""
        self.note(first, word, self.kept.get(word))
        self.place(word, stair)

    def place(self, word, stair):
        if stair is None:
            self.kept.pop(word, None)
        else:
            self.kept[word] = stair

"""The rules once more, read off the document as plainly as can be, by recursion: to be compared with."""

import contextlib
import sys
import unittest

from mirrorstair.data import data_text, kind_of
from mirrorstair.values import Built, Fun

TWO = ("plus minus times less alike join part is here read plain reads give hand made look keep change").split()
ONE = "first rest count fault reader".split()
BELOW = "read plain reads give hand made look keep change reader".split()
KEYS = "name say if fun let hold heed up put fixed give".split()


class DeepCalls(unittest.TestCase):
    """Tests in which the reference may call itself as deeply as lines want."""

    def setUp(self):
        self.addCleanup(sys.setrecursionlimit, sys.getrecursionlimit())
        sys.setrecursionlimit(20000)


class Wrong(Exception):
    def __init__(self, word):
        self.word = word


class Long(Exception):
    pass


class High(Exception):
    def __init__(self, level, text):
        self.level = level
        self.text = text


def number(value):
    return type(value) is int


def sort(right):
    if not right:
        raise Wrong("sort")


def room_check(value):
    if type(value) is not tuple:
        raise Wrong("room")
    for pair in value:
        if type(pair) is not tuple or len(pair) != 2 or type(pair[0]) is not str:
            raise Wrong("room")


def no_functions(value):
    if type(value) is tuple:
        return all(no_functions(part) for part in value)
    return not isinstance(value, (Fun, Built))


def alike(one, other):
    if type(one) is not type(other):
        return False
    if type(one) is tuple:
        return len(one) == len(other) and all(alike(a, b) for a, b in zip(one, other))
    return one == other


def shape(right):
    if not right:
        raise Wrong("shape")


class Reference:
    """A stair's line, read by recursion; held and tables are dicts by (level, word)."""

    def __init__(self, height=None, most=4000):
        self.height = height
        self.most = most
        self.held = {}
        self.tables = {}
        self.steps = 0
        self.reached = 0
        self.rows = []
        # What waits, the outermost first, and how all stood ahead of each step of the last line.
        self.waits = []
        self.marks = []

    @contextlib.contextmanager
    def waiting(self, level, word):
        self.waits.append((level, word))
        try:
            yield
        finally:
            self.waits.pop()

    def mark(self):
        return self.waits[::-1], dict(self.held), dict(self.tables)

    def step(self, level, kind, shown):
        if self.steps >= self.most:
            raise Long()
        self.steps += 1
        self.marks.append(self.mark())
        self.reached = max(self.reached, level)
        reader = self.tables.get((level + 1, kind))
        self.rows.append((level, kind, "plain" if reader is None else "table", data_text(shown)))
        return reader

    def read(self, level, thing, room):
        reader = self.step(level, kind_of(thing), thing)
        if reader is not None:
            return self.give(level + 1, reader, (thing, room))
        return self.plain(level, thing, room)

    def give(self, level, value, others):
        reader = self.step(level, "give", (value,) + others)
        if reader is not None:
            return self.give(level + 1, reader, (value, others))
        return self.hand(level, value, others)

    def plain(self, level, thing, room):
        kind = kind_of(thing)
        return getattr(self, "plain_" + kind)(level, thing, room)

    def plain_fixed(self, level, thing, room):
        return thing

    def plain_name(self, level, word, room):
        for one, value in room:
            if one == word:
                return value
        if (level, word) in self.held:
            return self.held[level, word]
        if word in ONE or word in TWO:
            return Built(word)
        raise Wrong("unknown")

    def plain_say(self, level, thing, room):
        shape(len(thing) == 2)
        return thing[1]

    def plain_if(self, level, thing, room):
        shape(len(thing) == 4)
        with self.waiting(level, "if"):
            asked = self.read(level, thing[1], room)
        if type(asked) is not bool:
            raise Wrong("choice")
        return self.read(level, thing[2] if asked else thing[3], room)

    def plain_fun(self, level, thing, room):
        shape(len(thing) == 3 and type(thing[1]) is tuple)
        shape(all(type(word) is str for word in thing[1]))
        shape(len(set(thing[1])) == len(thing[1]))
        return Fun(thing[1], thing[2], room)

    def plain_let(self, level, thing, room):
        shape(len(thing) == 4 and type(thing[1]) is str)
        with self.waiting(level, "let"):
            value = self.read(level, thing[2], room)
        return self.read(level, thing[3], ((thing[1], value),) + room)

    def plain_hold(self, level, thing, room):
        shape(len(thing) == 3 and type(thing[1]) is str)
        with self.waiting(level, "hold"):
            value = self.read(level, thing[2], room)
        self.held[level, thing[1]] = value
        return value

    def plain_heed(self, level, thing, room):
        shape(len(thing) == 3)
        try:
            with self.waiting(level, "heed"):
                return self.read(level, thing[1], room)
        except Wrong as wrong:
            word = wrong.word
        with self.waiting(level, "heeded"):
            value = self.read(level, thing[2], room)
        return self.give(level, value, (word,))

    def plain_up(self, level, thing, room):
        shape(len(thing) == 2)
        if level == self.height:
            raise High(level, data_text(thing))
        return self.read(level + 1, thing[1], ())

    def plain_put(self, level, thing, room):
        with self.waiting(level, "put"):
            values = tuple([self.read(level, part, room) for part in thing])
        return self.give(level, values[0], values[1:])

    def hand(self, level, value, others):
        if isinstance(value, Fun):
            if len(value.words) != len(others):
                raise Wrong("count")
            return self.read(level, value.body, tuple(zip(value.words, others)) + value.room)
        if not isinstance(value, Built):
            raise Wrong("sort")
        if len(others) != (1 if value.word in ONE else 2):
            raise Wrong("count")
        if value.word in BELOW and level == 0:
            raise Wrong("ground")
        return getattr(self, "do_" + value.word)(level, *others)

    def number(self, value):
        if len(str(abs(value))) > 40:
            raise Wrong("great")
        return value

    def do_plus(self, level, a, b):
        sort(number(a) and number(b))
        return self.number(a + b)

    def do_minus(self, level, a, b):
        sort(number(a) and number(b))
        return self.number(a - b)

    def do_times(self, level, a, b):
        sort(number(a) and number(b))
        return self.number(a * b)

    def do_less(self, level, a, b):
        sort(number(a) and number(b))
        return a < b

    def do_alike(self, level, a, b):
        sort(no_functions(a) and no_functions(b))
        return alike(a, b)

    def do_first(self, level, a):
        sort(type(a) is tuple and a != ())
        return a[0]

    def do_rest(self, level, a):
        sort(type(a) is tuple and a != ())
        return a[1:]

    def do_join(self, level, a, b):
        sort(type(b) is tuple)
        return (a,) + b

    def do_count(self, level, a):
        sort(type(a) is tuple)
        return len(a)

    def do_part(self, level, a, b):
        sort(type(a) is tuple and number(b) and b in range(len(a)))
        return a[b]

    def do_is(self, level, a, b):
        sorts = {"number": (int,), "truth": (bool,), "word": (str,), "list": (tuple,), "fun": (Fun, Built)}
        sort(type(a) is str and a in sorts)
        return type(b) in sorts[a]

    def do_fault(self, level, a):
        sort(type(a) is str)
        raise Wrong(a)

    def do_here(self, level, thing, room):
        room_check(room)
        return self.read(level, thing, room)

    def do_read(self, level, thing, room):
        room_check(room)
        return self.read(level - 1, thing, room)

    def do_plain(self, level, thing, room):
        room_check(room)
        return self.plain(level - 1, thing, room)

    def do_reads(self, level, things, room):
        sort(type(things) is tuple)
        room_check(room)
        with self.waiting(level - 1, "reads"):
            return tuple([self.read(level - 1, thing, room) for thing in things])

    def do_give(self, level, value, others):
        sort(type(others) is tuple)
        return self.give(level - 1, value, others)

    def do_hand(self, level, value, others):
        sort(type(others) is tuple)
        return self.hand(level - 1, value, others)

    def do_made(self, level, thing, room):
        room_check(room)
        shape(kind_of(thing) == "fun")
        return self.plain_fun(level - 1, thing, room)

    def do_look(self, level, word, room):
        sort(type(word) is str)
        room_check(room)
        return self.plain_name(level - 1, word, room)

    def do_keep(self, level, word, value):
        sort(type(word) is str)
        self.held[level - 1, word] = value
        return value

    def do_change(self, level, key, value):
        sort(type(key) is str and key in KEYS)
        sort(value is False or isinstance(value, (Fun, Built)))
        self.tables.pop((level, key), None)
        if value is not False:
            self.tables[level, key] = value
        return value

    def do_reader(self, level, key):
        sort(type(key) is str and key in KEYS)
        return self.tables.get((level, key), False)

    def tell(self, thing):
        """The answer as helpers.told tells it; the trace is left in rows, also of a line that is refused."""
        held, tables = dict(self.held), dict(self.tables)
        steps, reached = self.steps, self.reached
        self.steps, self.reached, self.rows, self.marks = 0, 0, [], []
        try:
            text = data_text(self.read(0, thing, ()))
        except Wrong as wrong:
            text = "!" + wrong.word
        except High as high:
            text = f"!high {high.level} {high.text}"
        except Long:
            text = f"!long {self.most}"
        self.marks.append(self.mark())
        if text.startswith("!"):
            self.held, self.tables = held, tables
            self.steps, self.reached = steps, reached
        else:
            self.steps += steps
            self.reached = max(self.reached, reached)
        return text

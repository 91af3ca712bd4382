"""The rows that a quick stair makes of what it reads."""

from mirrorstair.data import kind_of
from mirrorstair.trees import folded
from mirrorstair.values import Built, Fun, is_list, is_truth


def parts_of(value):
    if isinstance(value, Fun):
        return [value.words, value.body, value.room]
    if is_list(value):
        return list(value)
    return []


def leaf_key(value):
    if isinstance(value, Built):
        return ("built", value.word)
    # Python takes a truth and a number for the same.
    return (is_truth(value), value)


class Numbers:
    """A number for each unlike value, by which it is known.

    Functions are alike where their words, bodies and rooms are.
    """

    def __init__(self):
        self.known = {}
        # The rooms of functions may hold functions again, over and over: each is looked at once.
        self.funs = {}

    def number_of(self, value):
        return folded(
            value,
            lambda node: self.new_parts(node),
            lambda node, numbers: self.node_number(node, numbers),
        )

    def new_parts(self, node):
        if isinstance(node, Fun) and node in self.funs:
            return []
        return parts_of(node)

    def node_number(self, node, numbers):
        """The number of a value whose parts have these numbers."""
        if isinstance(node, Fun):
            if node not in self.funs:
                self.funs[node] = self.key_number(("fun", *numbers))
            return self.funs[node]
        if is_list(node):
            return self.key_number(("list", *numbers))
        return self.key_number(leaf_key(node))

    def key_number(self, key):
        return self.known.setdefault(key, len(self.known))


class Rows:
    """How each thing that was read is read at its level: its kind, and the reader for it or None.

    The rows hold for the tables of when they were made, so they are forgotten where one is changed.
    """

    def __init__(self, numbers):
        self.numbers = numbers
        self.ways = {}
        self.many = 0

    def copy(self):
        """Rows of their own, with the same ones made; numbers are shared, for they never change."""
        other = Rows(self.numbers)
        other.ways = {key: self.ways[key] for key in self.ways}
        other.many = self.many
        return other

    def forget(self):
        self.ways = {}

    def row_of(self, levels, level, thing):
        """The row of a thing at a level; it is made where there is none."""
        key = (level, self.numbers.number_of(thing))
        if key not in self.ways:
            kind = kind_of(thing)
            self.ways[key] = (kind, levels.table_at(level + 1).get(kind))
            self.many += 1
        return self.ways[key]

"""Lines made by chance, always the same ones for the same seed."""

import random

from mirrorstair.data import data_text

WORDS = ("a", "b", "c", "n", "t", "r", "plus", "read", "part", "fault", "if")
SORTS = ("number", "truth", "word", "list", "fun")
KEYS = "name say if fun let hold heed up put fixed give".split()
NUMBERS = (0, 1, 2, 3, -7, 10 ** 39, -(10 ** 40 - 1))
BUILT = "plus minus times less alike first rest join count part is fault here".split()
BELOW = "read plain reads give hand made look keep change reader".split()
PLAINLY = {"name": "look", "give": "hand", "fun": "made"}
COUNTING = ("hold", "n", ("heed", ("plus", "n", 1), ("fun", ("w",), 0)))


class Maker:
    """Makes things to be read; top is the greatest level to which they go up."""

    def __init__(self, seed, top, without=()):
        self.chance = random.Random(seed)
        self.top = top
        self.below = [word for word in BELOW if word not in without]

    def line(self):
        while True:
            text = data_text(self.line_thing())
            if len(text) <= 1500:
                return text

    def line_thing(self):
        if self.top > 0 and self.often(0.35):
            level = self.chance.randrange(1, self.top + 1)
            thing = self.put_change(level, 1, "any")
            for at in range(level):
                thing = ("up", thing)
            return thing
        thing = self.thing(0, 4, "any", ())
        if self.often(0.4):
            return ("heed", thing, ("fun", ("w",), "w"))
        return thing

    def often(self, chance):
        return self.chance.random() < chance

    def one(self, things):
        return self.chance.choice(things)

    def datum(self, deep):
        if deep > 0 and self.often(0.4):
            return tuple([self.datum(deep - 1) for at in range(self.chance.randrange(4))])
        return self.one(NUMBERS[:5] + (True, False, ()) + WORDS[:4])

    def leaf(self, sort, scope):
        """Something short that comes to a value of this sort, for the most part."""
        names = [pair[0] for pair in scope if pair[1] == sort]
        if names and self.often(0.7):
            return self.one(names)
        if self.often(0.1):
            return self.one(WORDS)
        if sort == "number":
            return self.one(NUMBERS)
        if sort == "truth":
            return self.one((True, False))
        if sort == "word":
            return ("say", self.one(WORDS))
        if sort == "list":
            return ("say", tuple([self.datum(1) for at in range(self.chance.randrange(1, 4))]))
        return self.one(BUILT + self.below)

    def thing(self, level, deep, sort, scope):
        if self.often(0.03):
            sort = self.one(SORTS)
        if sort == "any":
            sort = self.one(SORTS[:4])
        if deep == 0:
            return self.leaf(sort, scope)
        if self.often(0.02):
            return self.spoilt(self.thing(level, deep - 1, sort, scope))
        if self.often(0.5):
            return self.around(level, deep - 1, sort, scope)
        if level > 0 and self.often(0.5):
            return self.put_below(level, deep - 1, sort, scope)
        if level == 0 and self.often(0.02):
            return (self.one(self.below), self.leaf("word", scope), ())
        return getattr(self, "make_" + sort)(level, deep - 1, scope)

    def spoilt(self, thing):
        if not isinstance(thing, tuple) or not thing:
            return (self.one(KEYS), thing)
        at = self.chance.randrange(len(thing))
        if self.often(0.5):
            return thing[:at] + (self.datum(1),) + thing[at + 1:]
        return thing[:at] + thing[at + 1:]

    def around(self, level, deep, sort, scope):
        """A thing of any of the kinds that comes to what a part of it comes to."""
        way = self.one(("if", "let", "let", "hold", "heed", "heed", "up", "up", "call", "here"))
        word = self.one(WORDS[:5])
        if way == "if":
            asked = self.thing(level, deep, "truth", scope)
            return ("if", asked, self.thing(level, deep, sort, scope), self.thing(level, deep, sort, scope))
        if way == "let":
            kept = self.one(SORTS)
            value = self.thing(level, deep, kept, scope)
            return ("let", word, value, self.thing(level, deep, sort, scope + ((word, kept),)))
        if way == "hold":
            return ("hold", word, self.thing(level, deep, sort, scope))
        if way == "heed":
            return ("heed", self.risk(level, deep, sort, scope), self.heeder(level, deep, sort, scope))
        if way == "up" and level < self.top:
            return ("up", self.thing(level + 1, deep, sort, ()))
        if way == "here":
            room = tuple([(one, self.one(NUMBERS)) for one in self.chance.sample(WORDS, 2)])
            names = tuple([(pair[0], "number") for pair in room])
            return ("here", ("say", self.thing(level, deep, sort, names)), ("say", room))
        names = self.names()
        fun = ("fun", tuple([pair[0] for pair in names]), self.thing(level, deep, sort, scope + names))
        return (fun,) + tuple([self.thing(level, deep, pair[1], scope) for pair in names])

    def names(self):
        return tuple([(word, self.one(SORTS)) for word in self.chance.sample(WORDS, self.chance.randrange(3))])

    def risk(self, level, deep, sort, scope):
        if self.often(0.3):
            return ("fault", ("say", self.one(WORDS)))
        return self.thing(level, deep, sort, scope)

    def heeder(self, level, deep, sort, scope):
        return ("fun", ("w",), self.one(("w", ("join", "w", ()), self.thing(level, deep, sort, scope + (("w", "word"),)))))

    def make_number(self, level, deep, scope):
        word = self.one(("plus", "minus", "times", "count", "first", "part"))
        if word in ("count", "first"):
            return (word, self.thing(level, deep, "list", scope))
        if word == "part":
            return (word, self.thing(level, deep, "list", scope), self.one((0, 0, 1, 2, -1)))
        return (word, self.thing(level, deep, "number", scope), self.thing(level, deep, "number", scope))

    def make_truth(self, level, deep, scope):
        word = self.one(("less", "alike", "is"))
        if word == "is":
            return (word, ("say", self.one(SORTS)), self.thing(level, deep, self.one(SORTS), scope))
        sort = "number" if word == "less" else self.one(SORTS)
        return (word, self.thing(level, deep, sort, scope), self.thing(level, deep, sort, scope))

    def make_word(self, level, deep, scope):
        return ("heed", ("fault", self.thing(level, deep, "word", scope)), ("fun", ("w",), "w"))

    def make_list(self, level, deep, scope):
        if self.often(0.3):
            return ("rest", self.thing(level, deep, "list", scope))
        return ("join", self.thing(level, deep, "any", scope), self.thing(level, deep, "list", scope))

    def make_fun(self, level, deep, scope):
        names = self.names()
        return ("fun", tuple([pair[0] for pair in names]), self.thing(level, deep, "any", scope + names))

    def put_below(self, level, deep, sort, scope):
        """A built-in one that works on the level below."""
        word = self.one(self.below + ["change"] * 6)
        room = ("say", tuple([(one, self.datum(1)) for one in self.chance.sample(WORDS, 2)]))
        if self.often(0.05):
            room = ("say", self.datum(2))
        if word in ("read", "plain"):
            return (word, ("say", self.thing(level - 1, deep, sort, ())), room)
        if word == "reads":
            things = tuple([self.thing(level - 1, 1, "any", ()) for at in range(self.chance.randrange(3))])
            return (word, ("say", things), room)
        if word == "made":
            return (word, ("say", self.make_fun(level - 1, deep, ())), room)
        if word in ("give", "hand"):
            return (word, self.one(BUILT), ("say", (self.datum(1), self.datum(1))))
        if word == "look":
            return (word, ("say", self.one(WORDS)), room)
        if word == "keep":
            return (word, ("say", self.one(WORDS)), self.thing(level, deep, sort, scope))
        if word == "reader":
            return (word, ("say", self.one(KEYS)))
        return self.put_change(level, deep, sort)

    def put_change(self, level, deep, sort):
        key = self.one(KEYS)
        body = (PLAINLY.get(key, "plain"), "t", "r")
        way = self.one(("none", "same", "more", "count", "built", "any", "heed"))
        if way == "none":
            return ("change", ("say", key), False)
        if way == "built":
            return ("change", ("say", key), body[0])
        if way == "more":
            body = ("let", "x", body, ("if", ("is", ("say", "number"), "x"), ("plus", "x", 1), "x"))
        if way == "count":
            body = ("let", "x", COUNTING, body)
        if way == "heed":
            body = ("heed", body, ("fun", ("w",), "w"))
        if way == "any":
            asked = self.thing(level, deep, "truth", (("r", "list"),))
            body = ("if", asked, body, self.thing(level, deep, sort, (("r", "list"),)))
        return ("change", ("say", key), ("fun", ("t", "r"), body))

"""Functions and built-in ones, and of what sort a value is."""

SORTS = ("number", "truth", "word", "list", "fun")


class Fun:
    """A function: its words, its body, and the room in which it was made."""

    def __init__(self, words, body, room):
        self.words = words
        self.body = body
        self.room = room


class Built:
    """A built-in one, known by its word."""

    def __init__(self, word):
        self.word = word


def is_number(value):
    # True and False are ints to Python, but no whole numbers here.
    return isinstance(value, int) and not isinstance(value, bool)


def is_truth(value):
    return isinstance(value, bool)


def is_word(value):
    return isinstance(value, str)


def is_list(value):
    return isinstance(value, tuple)


def is_fun(value):
    return isinstance(value, (Fun, Built))


def sort_of(value):
    """The one of the sorts of which a value is."""
    if is_number(value):
        return "number"
    if is_truth(value):
        return "truth"
    if is_word(value):
        return "word"
    if is_list(value):
        return "list"
    return "fun"


def is_pair(value):
    return is_list(value) and len(value) == 2 and is_word(value[0])


def is_room(value):
    return is_list(value) and all([is_pair(part) for part in value])


def are_unlike_words(value):
    # The words are looked at ahead of the set, which could not hold any value.
    return is_list(value) and all([is_word(part) for part in value]) and len(set(value)) == len(value)


def has_fun(value):
    """Whether a function or a built-in one stands anywhere in a value."""
    # A list of what is left in place of recursion, for values may be deep.
    left = [value]
    while left:
        one = left.pop()
        if is_fun(one):
            return True
        if is_list(one):
            left.extend(list(one))
    return False


def same_leaf(one, other):
    # A truth is the same as a number to Python, so the sorts are looked at first.
    return is_truth(one) == is_truth(other) and one == other


def same(one, other):
    """Whether two values without functions are the same."""
    left = [(one, other)]
    while left:
        here, there = left.pop()
        if is_list(here) and is_list(there):
            if len(here) != len(there):
                return False
            left.extend(list(zip(here, there)))
        elif not same_leaf(here, there):
            return False
    return True

"""Data and values as texts, and the kinds of things to be read."""

from mirrorstair.errors import BadText
from mirrorstair.values import Built, Fun, is_list, is_word

FIGURES = 40
LETTERS = 12
# The words that make a list a kind of its own, with how many parts such a list has.
PARTS = {"say": 2, "if": 4, "fun": 3, "let": 4, "hold": 3, "heed": 3, "up": 2}


def run_end(text, at, most, low, high):
    """The end of the signs from low to high that stand from at on, most of them at most."""
    end = at
    while end < len(text) and end < at + most and low <= text[end] <= high:
        end += 1
    return end


def number_end(text, at):
    """The end of the number that begins at this place."""
    start = at
    if text.startswith("-", at):
        start = at + 1
    if text.startswith("0", start):
        if start > at:
            raise BadText(start)
        return start + 1
    end = run_end(text, start, FIGURES, "0", "9")
    if end == start:
        raise BadText(start)
    return end


def read_leaf(text, at):
    """The number, truth or word that begins at this place, and its end.

    More figures or letters than may be are left standing: they go wrong as what follows it.
    """
    end = run_end(text, at, LETTERS, "a", "z")
    if end == at:
        end = number_end(text, at)
        return int(text[at:end]), end
    word = text[at:end]
    if word == "yes" or word == "no":
        return word == "yes", end
    return word, end


def read_parts(text):
    """The one datum with which a text begins, and its end."""
    around = []
    at = 0
    while True:
        if text.startswith("(", at):
            around.append([])
            at += 1
            if not text.startswith(")", at):
                continue
        else:
            datum, at = read_leaf(text, at)
            if not around:
                return datum, at
            around[-1].append(datum)
        while text.startswith(")", at):
            datum = tuple(around.pop())
            at += 1
            if not around:
                return datum, at
            around[-1].append(datum)
        if not text.startswith(" ", at):
            raise BadText(at)
        at += 1


def read_data(text):
    """The datum of a text of one datum."""
    if not isinstance(text, str):
        raise BadText(0)
    datum, end = read_parts(text)
    if end != len(text):
        raise BadText(end)
    return datum


def leaf_text(value):
    if value is True:
        return "yes"
    if value is False:
        return "no"
    if isinstance(value, Fun):
        return "<" + " ".join(value.words) + ">"
    if isinstance(value, Built):
        return "<." + value.word + ">"
    return str(value)


def data_text(value):
    """The text of a value."""
    pieces = []
    # What is left to be written, the next one last: a text as it is, or a value.
    left = [(False, value)]
    while left:
        ready, one = left.pop()
        if ready:
            pieces.append(one)
        elif is_list(one):
            pieces.append("(")
            left.append((True, ")"))
            for at in range(len(one) - 1, -1, -1):
                left.append((False, one[at]))
                if at > 0:
                    left.append((True, " "))
        else:
            pieces.append(leaf_text(one))
    return "".join(pieces)


def kind_of(value):
    """The kind of a value, as something to be read."""
    if is_word(value):
        return "name"
    if not is_list(value) or not value:
        return "fixed"
    if is_word(value[0]) and value[0] in PARTS:
        return value[0]
    return "put"

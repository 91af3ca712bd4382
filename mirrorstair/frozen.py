"""Stairs as texts, and texts as stairs."""

from mirrorstair.data import data_text, read_data
from mirrorstair.errors import NoStair
from mirrorstair.levels import TOP, Levels, is_kind
from mirrorstair.names import is_built_word
from mirrorstair.quick import Quick
from mirrorstair.stair import Stair
from mirrorstair.trees import folded
from mirrorstair.values import Built, Fun, are_unlike_words, is_fun, is_list, is_number, is_room, is_word


def list_text(texts):
    return "(" + " ".join(texts) + ")"


def parts_to_write(value):
    if isinstance(value, Fun):
        return [value.body] + [pair[1] for pair in value.room]
    if is_list(value):
        return list(value)
    return []


def fun_text(fun, texts):
    """The text of a function, from those of its body and of the values in its room."""
    pairs = [list_text([pair[0], text]) for pair, text in zip(fun.room, texts[1:])]
    return list_text(["fun", list_text(fun.words), texts[0], list_text(pairs)])


def written_value(value, texts):
    """The text of a value, from those of its parts."""
    if isinstance(value, Fun):
        return fun_text(value, texts)
    if isinstance(value, Built):
        return list_text(["built", value.word])
    if is_list(value):
        return list_text(["list"] + texts)
    if is_word(value):
        return list_text(["word", value])
    return data_text(value)


def rows_text(found):
    """The text of all rows (level word value) of a dict by level and word."""
    rows = []
    for level in sorted(found):
        for word in sorted(found[level]):
            text = folded(found[level][word], parts_to_write, written_value)
            rows.append(list_text([str(level), word, text]))
    return list_text(rows)


def frozen(stair):
    """The text that tells all of a stair but the lines that may be taken back."""
    height = "no" if stair.height is None else str(stair.height)
    words = rows_text(stair.levels.words)
    readers = rows_text(stair.levels.tables)
    return list_text([height, str(stair.steps), str(stair.reached), words, readers])


def want(right):
    if not right:
        raise NoStair("no list that tells a stair")


def is_number_to(datum, top):
    return is_number(datum) and 0 <= datum <= top


def parts_to_make(datum):
    """The written values in a written one; what is none is refused."""
    if not is_list(datum):
        want(not is_word(datum))
        return []
    want(len(datum) > 0)
    if datum[0] == "list":
        return list(datum[1:])
    if datum[0] == "fun":
        want(len(datum) == 4 and are_unlike_words(datum[1]) and is_room(datum[3]))
        return [datum[2]] + [pair[1] for pair in datum[3]]
    want(len(datum) == 2 and is_word(datum[1]))
    want(datum[0] == "word" or (datum[0] == "built" and is_built_word(datum[1])))
    return []


def made_value(datum, parts):
    """The value that is written so, from those in it."""
    if not is_list(datum):
        return datum
    if datum[0] == "list":
        return tuple(parts)
    if datum[0] == "word":
        return datum[1]
    if datum[0] == "built":
        return Built(datum[1])
    pairs = [(pair[0], value) for pair, value in zip(datum[3], parts[1:])]
    return Fun(datum[1], parts[0], tuple(pairs))


def made_rows(rows, is_right_word, low, top):
    """The dict by level and word of rows (level word value), which are to be in order."""
    want(is_list(rows))
    found = {}
    last = None
    for row in rows:
        want(is_list(row) and len(row) == 3)
        level, word, value = row
        want(is_number_to(level, top) and level >= low and is_right_word(word))
        want(last is None or last < (level, word))
        last = (level, word)
        words = found.setdefault(level, {})
        words[word] = folded(value, parts_to_make, made_value)
    return found


def made_tables(rows, top):
    tables = made_rows(rows, is_kind, 1, top)
    for level in tables:
        want(all([is_fun(reader) for reader in tables[level].values()]))
    return tables


def thawed(text, *, quick=False):
    """The stair of such a text."""
    datum = read_data(text)
    want(is_list(datum) and len(datum) == 5)
    height, steps, reached, words, readers = datum
    want(height is False or is_number_to(height, TOP))
    want(is_number(steps) and steps >= 0 and is_number(reached) and reached >= 0)
    want(height is False or reached <= height)
    top = TOP if height is False else height
    levels = Levels(made_rows(words, is_word, 0, top), made_tables(readers, top))
    limit = None if height is False else height
    stair = Quick(height=limit) if quick else Stair(height=limit)
    stair.levels = levels
    stair.steps = steps
    stair.reached = reached
    return stair

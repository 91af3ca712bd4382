"""What the levels of a stair keep: held words and tables."""

from mirrorstair.data import data_text

# The greatest level, but for what comes above it on the way.
TOP = 12
KINDS = ("name", "say", "if", "fun", "let", "hold", "heed", "up", "put", "fixed", "give")


def is_kind(value):
    """Whether a value is a kind, or give: what a table may have a reader for."""
    return isinstance(value, str) and value in KINDS


class Levels:
    """The held words of all levels, and the tables by which the levels below are read.

    Both are dicts by level. Levels are never changed, others are put in their place: so those of
    an earlier line or step stay as they were, and may be shared.
    """

    def __init__(self, words, tables):
        self.words = words
        self.tables = tables

    def words_at(self, level):
        """The dict of the words held at a level, only to be looked at."""
        return self.words.get(level, {})

    def table_at(self, level):
        """The dict of the readers in the table of a level, only to be looked at."""
        return self.tables.get(level, {})

    def held_texts(self, level):
        """The words held at a level, sorted, with the texts of their values."""
        words = self.words_at(level)
        return {word: data_text(words[word]) for word in sorted(words)}

    def reader_kinds(self, level):
        """The kinds, and give, for which the table of a level has a reader, sorted."""
        return sorted(self.table_at(level))

    def with_word(self, level, word, value):
        """Levels where this value is held for a word."""
        words = {**self.words_at(level), word: value}
        return Levels({**self.words, level: words}, self.tables)

    def with_reader(self, level, kind, reader):
        """Levels with a reader in the table of one of them; False takes it out."""
        table = dict(self.table_at(level))
        tables = dict(self.tables)
        if reader is False:
            table.pop(kind, None)
        else:
            table[kind] = reader
        # No empty table stays, so that tables that have the same readers are the same dicts.
        if table:
            tables[level] = table
        else:
            tables.pop(level, None)
        return Levels(self.words, tables)

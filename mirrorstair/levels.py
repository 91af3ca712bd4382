"""What the levels of a stair keep: held words and tables."""

KINDS = ("name", "say", "if", "fun", "let", "hold", "heed", "up", "put", "fixed", "give")


def is_kind(value):
    """Whether a value is a kind, or give: what a table may have a reader for."""
    return isinstance(value, str) and value in KINDS


def copied(rows):
    return {level: dict(rows[level]) for level in rows}


class Levels:
    """The held words of all levels, and the tables by which the levels below are read."""

    def __init__(self):
        self.words = {}
        self.tables = {}

    def copy(self):
        other = Levels()
        other.words = copied(self.words)
        other.tables = copied(self.tables)
        return other

    def words_at(self, level):
        """The dict of the words held at a level, only to be looked at."""
        return self.words.get(level, {})

    def table_at(self, level):
        """The dict of the readers in the table of a level, only to be looked at."""
        return self.tables.get(level, {})

    def keep(self, level, word, value):
        words = self.words.setdefault(level, {})
        words[word] = value

    def change(self, level, kind, value):
        """Put a reader into the table of a level; False takes it out."""
        table = self.tables.setdefault(level, {})
        if value is False:
            table.pop(kind, None)
        else:
            table[kind] = value

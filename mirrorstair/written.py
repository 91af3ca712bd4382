"""Readers written out in the language, each doing what reading plainly does."""

from mirrorstair.errors import NoKind
from mirrorstair.levels import is_kind

# The built-in ones that each body names; they stand in the room of the function,
# for the words may be held for anything at the level where its body is read.
NAMES = {
    "fixed": (),
    "name": ("look",),
    "say": ("alike", "count", "part", "fault"),
    "if": ("alike", "count", "part", "fault", "read"),
    "fun": ("made",),
    "let": ("alike", "count", "part", "fault", "is", "join", "read"),
    "hold": ("alike", "count", "part", "fault", "is", "keep", "read"),
    "heed": ("alike", "count", "part", "fault", "join", "read", "give"),
    "up": ("alike", "count", "part", "fault", "here"),
    "put": ("reads", "give", "first", "rest"),
    "give": ("hand",),
}
# Functions of a thing and its room, at the level above it; that of give: of a value and the others.
FUNS = {
    "fixed": "(fun (t r) t)",
    "name": "(fun (t r) (look t r))",
    "say": "(fun (t r) (if (alike (count t) 2) (part t 1) (fault (say shape))))",
    "if": "(fun (t r) (if (alike (count t) 4)"
          " (if (read (part t 1) r) (read (part t 2) r) (read (part t 3) r))"
          " (fault (say shape))))",
    "fun": "(fun (t r) (made t r))",
    "let": "(fun (t r) (if (if (alike (count t) 4) (is (say word) (part t 1)) no)"
           " (read (part t 3) (join (join (part t 1) (join (read (part t 2) r) ())) r))"
           " (fault (say shape))))",
    "hold": "(fun (t r) (if (if (alike (count t) 3) (is (say word) (part t 1)) no)"
            " (keep (part t 1) (read (part t 2) r))"
            " (fault (say shape))))",
    "heed": "(fun (t r) (if (alike (count t) 3)"
            " (heed (read (part t 1) r) (fun (w) (give (read (part t 2) r) (join w ()))))"
            " (fault (say shape))))",
    "up": "(fun (t r) (if (alike (count t) 2) (here (part t 1) ()) (fault (say shape))))",
    "put": "(fun (t r) (let v (reads t r) (give (first v) (rest v))))",
    "give": "(fun (v a) (hand v a))",
}


def written(kind):
    """The text of a function that reads things of this kind, or gives, as is done plainly."""
    if not is_kind(kind):
        raise NoKind("no kind, and not give")
    text = FUNS[kind]
    for name in NAMES[kind]:
        text = f"(let {name} {name} {text})"
    return text

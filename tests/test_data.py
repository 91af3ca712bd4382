"""Points 5 and 6: data, their texts, and kinds."""

import unittest

from mirrorstair.data import data_text, kind_of, read_data
from mirrorstair.errors import BadText
from mirrorstair.stair import Stair
from tests.helpers import SEVEN, answer

RIGHT = (
    ("0", 0), ("1", 1), ("-1", -1), ("10", 10), ("907", 907), ("-20", -20),
    ("9" * 40, 10 ** 40 - 1), ("-" + "9" * 40, 1 - 10 ** 40), ("1" + "0" * 39, 10 ** 39),
    ("yes", True), ("no", False), ("a", "a"), ("z", "z"), ("ye", "ye"), ("yess", "yess"), ("nono", "nono"),
    ("n", "n"), ("on", "on"), ("abcdefghijkl", "abcdefghijkl"), ("yesyesyesyes", "yesyesyesyes"),
    ("()", ()), ("(())", ((),)), ("(() ())", ((), ())), ("(1)", (1,)), ("(a 1 yes no)", ("a", 1, True, False)),
    ("((1 2) (3 (4)) 5)", ((1, 2), (3, (4,)), 5)), ("(a (b (c ())) -3)", ("a", ("b", ("c", ())), -3)),
)
# Texts that are none, with how long a beginning could have become one.
WRONG = (
    ("", 0), (" ", 0), (" 1", 0), (")", 0), ("A", 0), ("+1", 0), ("~", 0), ("<x>", 0), ("<.plus>", 0), ('"a"', 0),
    ("1 ", 1), ("1 2", 1), ("a b", 1), ("1)", 1), ("1a", 1), ("a1", 1), ("aB", 1), ("1.5", 1), ("1_0", 1),
    ("00", 1), ("01", 1), ("-", 1), ("-0", 1), ("-01", 1), ("--1", 1), ("- 1", 1), ("-a", 1), ("1-", 1),
    ("9" * 41, 40), ("-" + "9" * 41, 41), ("1" + "0" * 60, 40), ("a" * 13, 12), ("b" * 40, 12),
    ("(", 1), ("((", 2), ("(1", 2), ("(1 ", 3), ("(1 2", 4), ("(a (b", 5), ("(a (b)", 6), ("(-", 2), ("(ab", 3),
    ("( ", 1), ("( )", 1), ("( 1)", 1), ("(1 )", 3), ("(1  2)", 3), ("(1,2)", 2), ("(a(b))", 2), ("(()())", 3),
    ("((a)b)", 4), ("(1 2) ", 5), ("(1 2))", 5), ("(1 2) 3", 5), ("()()", 2), ("yes no", 3), ("yes(", 3),
    ("(00)", 2), ("(-0 1)", 2), ("(1 " + "7" * 41 + ")", 43), ("(1 " + "-" + "7" * 41 + ")", 44),
    ("(x " + "c" * 13 + ")", 15), ("(1 2\t3)", 4), ("(1\n2)", 2), ("1\n", 1), ("(a A)", 3),
    ("\u0661", 0), ("1\u0661", 1), ("\u00e9", 0), ("a\u00e9", 1), ("(a \u00b2)", 3),
)
NO_TEXTS = (None, 1, True, 1.5, (), [], ("a",), {}, b"a", b"", object())


def at_of(thing):
    try:
        return read_data(thing)
    except BadText as refusal:
        return ("at", refusal.at)


class Texts(unittest.TestCase):
    def same(self, one, other):
        # True is 1 to Python: the texts that Python writes of them tell the two apart.
        self.assertEqual(repr(one), repr(other))

    def test_both_ways(self):
        for text, datum in RIGHT:
            with self.subTest(text=text):
                self.same(datum, read_data(text))
                self.assertEqual(text, data_text(datum))

    def test_wrong_texts(self):
        for text, at in WRONG:
            with self.subTest(text=text):
                self.assertEqual(("at", at), at_of(text))

    def test_no_texts(self):
        for thing in NO_TEXTS:
            with self.subTest(thing=thing):
                self.assertEqual(("at", 0), at_of(thing))

    def test_every_beginning_breaks_off_at_its_end(self):
        text = "(a (bc -12 (yes)) () (0 no))"
        for end in range(len(text)):
            self.assertEqual(("at", end), at_of(text[:end]))

    def test_every_sign_spoilt(self):
        text = "(a (bc -12 (yes)) () (0 no))"
        for at in range(len(text)):
            self.assertEqual(("at", at), at_of(text[:at] + "#" + text[at + 1:]))

    def test_deep(self):
        for deep in (60, 400, 5000):
            text = "(" * deep + "1" + ")" * deep
            self.assertEqual(text, data_text(read_data(text)))
            self.assertEqual(("at", len(text) - 1), at_of(text[:-1]))
            self.assertEqual(("at", len(text)), at_of(text + ")"))

    def test_wide(self):
        text = "(" + " ".join(["1"] * 1999) + ")"
        self.assertEqual(1999, len(read_data(text)))
        self.assertEqual(text, data_text(read_data(text)))
        self.assertEqual(20000, data_text((7,) * 20000).count("7"))

    def test_by_names(self):
        self.assertEqual((1,), read_data(text="(1)"))
        self.assertEqual("(1)", data_text(value=(1,)))
        self.assertEqual("put", kind_of(value=(1,)))

    def test_functions(self):
        self.assertEqual("<>", answer("(fun () 1)"))
        self.assertEqual("<x>", answer("(fun (x) y)"))
        self.assertEqual("<x yy z>", answer("(fun (x yy z) (a b))"))
        self.assertEqual("<.plus>", answer("plus"))
        self.assertEqual("<.reader>", answer("reader"))
        self.assertEqual("(<.join> <x y> (<>))", answer("(join join (join (fun (x y) 1) (join (join (fun () 1) ()) ())))"))


class Kinds(unittest.TestCase):
    def test_each_kind(self):
        for value in (0, 7, -3, True, False, ()):
            self.assertEqual("fixed", kind_of(value))
        for value in ("a", "say", "give", "put", "plus"):
            self.assertEqual("name", kind_of(value))
        for word in SEVEN:
            for value in ((word,), (word, 1), (word, 1, 2, 3, 4), (word, word)):
                self.assertEqual(word, kind_of(value))
        for value in ((1,), (True,), ("give", 1), ("name",), ("put", 1), ("fixed",), ((), 1), (("say", 1),), ("x", "say")):
            self.assertEqual("put", kind_of(value))

    def test_kinds_of_functions(self):
        # Reading a function plainly, as fixed: it is itself.
        self.assertEqual("<x>", answer("(here (fun (x) 1) ())"))
        self.assertEqual("<.plus>", answer("(here plus ())"))
        self.assertEqual((0, "fixed", "plain", "<.plus>"), Stair().trace("(here plus ())")[-1])
        self.assertEqual((0, "fixed", "plain", "<x>"), Stair().trace("(here (fun (x) 1) ())")[-1])

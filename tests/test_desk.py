"""Points 18 and 19: a desk."""

import unittest

from mirrorstair.desk import Desk
from mirrorstair.errors import BadText, Fault, NoBack, NoKind, NoLevel, NoLine, NoName, StairError, TooHigh, TooLong
from mirrorstair.stair import Stair
from tests.helpers import LOOP, READERS

WORDS = ("a", "b", "c", "d", "s")


def desk_told(*lines):
    desk = Desk()
    for line in lines:
        desk.tell(line)
    return desk


def told(desk, line):
    """The answer, or the refusal with its fields."""
    try:
        return desk.tell(line)
    except StairError as refusal:
        return type(refusal).__name__, sorted(vars(refusal).items())


def look(desk):
    """What lines that change nothing answer."""
    rows = []
    for word in WORDS:
        for line in (f"steps {word}", f"reached {word}", f"needed {word} (up 1)", f"needed {word} x"):
            rows.append((line, told(desk, line)))
        for level in (0, 1, 2, 12):
            rows += [(line, told(desk, line)) for line in (f"held {word} {level}", f"readers {word} {level}")]
    return rows


class Answers(unittest.TestCase):
    def answers(self, *rows):
        desk = Desk()
        for line, answer in rows:
            self.assertEqual(answer, told(desk, line), line)

    def test_new(self):
        self.answers(("new a -", "ok"), ("new b 0", "ok"), ("new c 12", "ok"), ("tell a (up 1)", "1"), (
            "tell b (up 1)", ("TooHigh", [("level", 0), ("text", "(up 1)")])), ("tell b 1", "1"), ("new abcdefgh 7", "ok"))

    def test_quick(self):
        self.answers(("quick a", "ok"), ("tell a (hold x 1)", "1"), ("tell a (plus x x)", "2"), ("steps a", "7"), (
            "tell a " + "(up " * 12 + "1" + ")" * 12, "1"), ("reached a", "12"))

    def test_each_line(self):
        for made in ("new s -", "quick s", "new s 3"):
            self.answers(
                (made, "ok"), ("steps s", "0"), ("reached s", "0"), ("held s 0", "-"), ("readers s 1", "-"), ("readers s 0", "-"),
                ("tell s (hold x (say (1 a)))", "(1 a)"), ("tell s (hold f (fun (n m) n))", "<n m>"), ("held s 0", "f=<n m> x=(1 a)"),
                ("tell s (up (hold y 1))", "1"), ("held s 1", "y=1"), ("held s 12", "-"), ("steps s", "7"), ("reached s", "1"),
                ("needed s (up (up 1))", "2"), ("needed s 1", "0"), ("write s 1 if", "ok"), ("write s 1 fixed", "ok"),
                ("readers s 1", "fixed if"), ("readers s 2", "-"), ("tell s 5", "5"), ("back s 2", "ok"), ("readers s 1", "if"),
                ("back s 0", "ok"), ("twin s a", "ok"), ("back a 3", "ok"), ("held a 0", "x=(1 a)"), ("held s 0", "f=<n m> x=(1 a)"),
                ("drop s", "ok"), ("steps s", ("NoName", [("word", "s")])), ("undo", "drop"), ("steps s", "7"),
            )

    def test_tell_takes_all_behind_the_word(self):
        self.answers(
            ("new a -", "ok"), ("tell a (say (a b))", "(a b)"), ("tell a  1", ("BadText", [("at", 0)])),
            ("tell a 1 ", ("BadText", [("at", 1)])), ("tell a  ", ("BadText", [("at", 0)])), ("tell a (say  a)", ("BadText", [("at", 5)])),
            ("needed a  1", ("BadText", [("at", 0)])), ("needed a 1 ", ("BadText", [("at", 1)])), ("tell a x", ("Fault", [("word", "unknown")])),
            ("needed a x", ("Fault", [("word", "unknown")])), ("tell a !", ("BadText", [("at", 0)])),
        )

    def test_at_most_so_many_steps(self):
        desk = desk_told("new a -", f"tell a {LOOP}")
        for line in ("tell a (loop 400)", "needed a (loop 400)"):
            self.assertEqual(("TooLong", [("steps", 4000)]), told(desk, line))
        self.assertEqual("100", desk.tell("tell a (loop 100)"))

    def test_kept_anew(self):
        for line in ("new a 2", "quick a", "twin b a", "twin a a"):
            desk = desk_told("new a -", "tell a (hold x 1)", "new b -", "tell b (hold y 2)")
            ahead = look(desk)
            self.assertEqual("ok", desk.tell(line))
            self.assertEqual({"twin b a": "y=2", "twin a a": "x=1"}.get(line, "-"), desk.tell("held a 0"))
            self.assertEqual("y=2", desk.tell("held b 0"))
            desk.tell("tell a (hold z 3)")
            self.assertEqual("y=2", desk.tell("held b 0"))
            self.assertEqual(["tell", line.split()[0]], [desk.tell("undo"), desk.tell("undo")])
            self.assertEqual(ahead, look(desk))

    def test_twins_go_their_own_way(self):
        for made in ("new a -", "quick a"):
            desk = desk_told(made, "tell a (hold x 1)", "write a 1 if", "twin a b")
            desk.tell("tell a (hold x 2)")
            desk.tell("back b 1")
            desk.tell("tell b (hold y 3)")
            self.assertEqual(("x=2", "if"), (desk.tell("held a 0"), desk.tell("readers a 1")))
            self.assertEqual(("x=1 y=3", "-"), (desk.tell("held b 0"), desk.tell("readers b 1")))
            desk.tell("back b 2")
            self.assertEqual("NoBack", told(desk, "back b 1")[0])
            desk.tell("drop a")
            self.assertEqual("-", desk.tell("held b 0"))

    def test_desks_do_not_see_one_another(self):
        one, other = desk_told("new a -", "tell a (hold x 1)"), desk_told("new a -")
        self.assertEqual(("x=1", "-"), (one.tell("held a 0"), other.tell("held a 0")))
        self.assertEqual("NoName", told(Desk(), "held a 0")[0])

    def test_write(self):
        desk = desk_told("new a -", "new b 2")
        for level in range(1, 13):
            for kind in READERS:
                self.assertEqual("ok", desk.tell(f"write a {level} {kind}"))
            self.assertEqual(" ".join(sorted(READERS)), desk.tell(f"readers a {level}"))
        for line, refusal in (
            ("write a 0 if", "NoLevel"), ("write a 13 if", "NoLevel"), ("write a 999 if", "NoLevel"), ("write b 3 if", "NoLevel"),
            ("write b 3 zz", "NoLevel"), ("write a 0 ", "NoLevel"), ("write a 1 ", "NoKind"), ("write a 1 zz", "NoKind"),
            ("write a 1 If", "NoKind"), ("write a 1 -", "NoKind"), ("write b 2 plus", "NoKind"), ("write a 1 12", "NoKind"),
        ):
            self.assertEqual((refusal, []), told(desk, line), line)

    def test_by_name(self):
        self.assertEqual("ok", Desk().tell(line="new a -"))


class Undo(unittest.TestCase):
    LINES = (
        "new a -", "tell a (hold x 1)", "write a 1 if", "twin a b", "tell b (up (hold y 2))", "quick c", "tell c (hold z 3)",
        "back b 2", "drop a", "new b 2", "twin c a", "tell a (up (change (say let) plain))", "quick a", "back c 0", "twin c c",
        "write c 2 give", "drop c", "new c 0", "tell c 5",
    )

    def test_each_one_behind_the_other(self):
        desk = Desk()
        looks = []
        for line in self.LINES:
            looks.append(look(desk))
            desk.tell(line)
        for line in self.LINES[::-1]:
            self.assertEqual(line.split()[0], desk.tell("undo"))
            self.assertEqual(looks.pop(), look(desk))
        for at in range(2):
            with self.assertRaises(NoBack):
                desk.tell("undo")
        self.assertEqual(look(Desk()), look(desk))

    def test_undone_and_done_again(self):
        for many in range(len(self.LINES) + 1):
            desk = desk_told(*self.LINES)
            for at in range(many):
                desk.tell("undo")
            for line in self.LINES[len(self.LINES) - many:]:
                desk.tell(line)
            self.assertEqual(look(desk_told(*self.LINES)), look(desk))
            desk.tell("undo")
            self.assertEqual(look(desk_told(*self.LINES[:-1])), look(desk))

    def test_of_a_back_brings_lines_to_be_taken_back(self):
        desk = desk_told("new a -", "tell a (hold x 1)", "tell a (hold x 2)", "tell a (hold x 3)", "back a 3", "tell a (hold x 4)")
        self.assertEqual(["tell", "back"], [desk.tell("undo"), desk.tell("undo")])
        self.assertEqual("x=3", desk.tell("held a 0"))
        for expected in ("x=2", "x=1", "-"):
            desk.tell("back a 1")
            self.assertEqual(expected, desk.tell("held a 0"))
        with self.assertRaises(NoBack):
            desk.tell("back a 1")

    def test_of_a_tell_leaves_the_lines_ahead(self):
        desk = desk_told("quick a", "tell a (hold x 1)", "tell a (hold x 2)")
        desk.tell("undo")
        self.assertEqual("x=1", desk.tell("held a 0"))
        desk.tell("back a 1")
        self.assertEqual("NoBack", told(desk, "back a 1")[0])
        self.assertEqual("5", desk.tell("tell a 5"))

    def test_what_only_asks_is_not_undone(self):
        desk = desk_told("new a -", "tell a (hold x 1)")
        for line in ("held a 0", "readers a 1", "steps a", "reached a", "needed a (hold x 5)"):
            desk.tell(line)
        for line in ("tell a x y", "tell a y", "back a 5", "write a 0 if", "drop b", "twin b a", "new a 13", "what", "undo "):
            self.assertIsInstance(told(desk, line), tuple, line)
        self.assertEqual(["tell", "new"], [desk.tell("undo"), desk.tell("undo")])

    def test_of_a_new_desk(self):
        with self.assertRaises(NoBack):
            Desk().tell("undo")


class Refused(unittest.TestCase):
    NO_LINES = (
        "", " ", "  ", "what", "New a -", "new", "new ", "new a", "new a ", "new a - ", "new a -  ", "new  a -", " new a -", "new a  -",
        "new a - -", "new A -", "new a1 -", "new abcdefghi -", "new a_ -", "new 1 -", "new a --", "new a x", "new a -1", "new a +1",
        "new a 00", "new a 01", "new a 012", "new a 1000", "new a 1.0", "new a 1a", "new a 0000", "new\ta\t-", "new a 1\n",
        "quick", "quick ", "quick a ", "quick a -", "quick A", "quick abcdefghi", "quick a b", " quick a", "quickly a",
        "tell", "tell ", "tell a", "tell a ", "tell  1", "tell   1", "tell A 1", "tell abcdefghi 1", " tell a 1", "tell a1 1",
        "held", "held a", "held a ", "held a -", "held a 00", "held a 1000", "held a 1 ", "held a  1", "held a 1 2", "held a x",
        "held a -1", "held A 1", "readers", "readers a", "readers a ", "readers a -", "readers a 01", "readers a 1000", "readers a 1 ",
        "write", "write a", "write a 1", "write a if", "write a 1 if ", "write a 1  if", "write a  1 if", "write a 1 if x", "write a 1  ",
        "write a - if", "write a 01 if", "write a 1000 if", "write abcdefghi 1 if", "write a -1 if", "write a x if", "write a  ",
        "back", "back a", "back a ", "back a -", "back a -1", "back a 01", "back a 1000", "back a 1 ", "back a x", "back a many",
        "twin", "twin a", "twin a ", "twin a b ", "twin a b c", "twin a B", "twin a abcdefghi", "twin a 1", "twin abcdefghi a", "twin  a",
        "steps", "steps ", "steps a ", "steps a b", "steps A", "reached", "reached ", "reached a ", "reached 1", "reached a 1",
        "needed", "needed ", "needed a", "needed a ", "needed  1", "needed A 1", "drop", "drop ", "drop a ", "drop a b", "drop A",
        "undo ", " undo", "undo a", "undo undo", "undo 1", "Undo", "yes", "-", "a", "0",
    )

    def test_no_lines(self):
        for desk in (Desk(), desk_told("new a -", "tell a (hold x 1)")):
            ahead = look(desk)
            for line in self.NO_LINES:
                with self.assertRaises(NoLine, msg=line):
                    desk.tell(line)
            for thing in (None, 5, True, (), ("new", "a", "-"), ["undo"], {}, b"undo", object()):
                with self.assertRaises(NoLine):
                    desk.tell(thing)
            self.assertEqual(ahead, look(desk))

    def test_no_names(self):
        desk = desk_told("new a -", "new abcdefgh -", "drop a")
        for line in (
            "tell a 1", "tell a (", "tell a  ", "held a 0", "held a 13", "readers a 13", "write a 1 if", "write a 0 zz", "write a 1 ",
            "back a 0", "back a 999", "twin a b", "twin a abcdefgh", "steps a", "reached a", "needed a 1", "needed a x", "drop a",
        ):
            with self.assertRaises(NoName, msg=line) as caught:
                desk.tell(line)
            self.assertEqual("a", caught.exception.word)
            self.assertEqual((NoName, StairError), type(caught.exception).__mro__[:2])
        with self.assertRaises(NoName) as caught:
            desk.tell("steps zzzzzzzz")
        self.assertEqual("zzzzzzzz", caught.exception.word)

    def test_levels(self):
        for level in (13, 14, 99, 100, 999):
            desk = desk_told("new a -")
            for line in (f"new a {level}", f"new b {level}", f"held a {level}", f"readers a {level}", f"write a {level} if"):
                with self.assertRaises(NoLevel):
                    desk.tell(line)
            self.assertEqual("NoName", told(desk, "steps b")[0])
        desk = desk_told("new a 0")
        for level in range(13):
            self.assertEqual(("-", "-"), (desk.tell(f"held a {level}"), desk.tell(f"readers a {level}")))
            self.assertEqual("ok", desk.tell(f"new b {level}"))

    def test_in_order(self):
        desk = desk_told("new a 1")
        for line, refusal in (
            ("held b 1000", NoLine), ("held b 999", NoName), ("held a 999", NoLevel), ("write b 999 zz", NoName),
            ("write a 999 zz", NoLevel), ("write a 1 zz", NoKind), ("new abcdefghi 999", NoLine), ("new a 999", NoLevel),
            ("tell b  ", NoName), ("tell a  ", BadText), ("back b 999", NoName), ("back a 999", NoBack), ("twin b abcdefghi", NoLine),
            ("tell a (up (up 1))", TooHigh), ("tell a (1)", Fault), ("tell a (let g (fun (g) (g g)) (g g))", TooLong),
        ):
            with self.assertRaises(refusal, msg=line) as caught:
                desk.tell(line)
            self.assertEqual(refusal, type(caught.exception))

    def test_all_is_as_ahead(self):
        desk = desk_told("new a 2", "tell a (hold x 1)", "write a 1 say", "quick b", "tell b (hold y 1)")
        ahead = look(desk)
        for line in (
            "tell a (plus (hold x 2) y)", "tell b (plus (hold y 2) (up (change (say if) no)))", "tell a (up (up (up 1)))", "tell a (",
            "write a 3 if", "write a 1 iff", "back a 3", "back b 2", "new a 13", "twin c a", "drop c", "undo a",
        ):
            self.assertIsInstance(told(desk, line), tuple, line)
            self.assertEqual(ahead, look(desk))
        self.assertEqual(
            ["tell", "quick", "write", "tell", "new"], [desk.tell("undo") for at in range(5)])
        self.assertEqual("NoBack", told(desk, "undo")[0])

    def test_taken(self):
        desk = desk_told("new a -")
        for line in ("back a 0", "held a 12", "held a 0", "new abcdefgh 12", "quick zzzzzzzz", "twin a abcdefgh", "drop abcdefgh"):
            self.assertIsInstance(told(desk, line), str, line)


class AsStairs(unittest.TestCase):
    def test_the_same_as_stairs_told_so(self):
        lines = (LOOP, "(loop 3)", "(up (hold x 5))", "(up (change (say fixed) (fun (t r) (plus t 1))))", "7", "(loop)", "x")
        for made in ("new a -", "quick a"):
            desk, stair = desk_told(made), Stair()
            for line in lines:
                try:
                    expected = stair.tell(line)
                except Fault as fault:
                    expected = ("Fault", [("word", fault.word)])
                self.assertEqual(expected, told(desk, f"tell a {line}"))
                self.assertEqual(str(stair.steps), desk.tell("steps a"))
                self.assertEqual(str(stair.reached), desk.tell("reached a"))
                held = " ".join([f"{word}={text}" for word, text in stair.held(1).items()]) or "-"
                self.assertEqual(held, desk.tell("held a 1"))
                self.assertEqual(" ".join(stair.readers()) or "-", desk.tell("readers a 1"))

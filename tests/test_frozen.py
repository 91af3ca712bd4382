"""Points 23 and 24: stairs as texts."""

import unittest

from mirrorstair.data import data_text, read_data
from mirrorstair.errors import BadText, NoBack, NoStair, TooHigh
from mirrorstair.frozen import frozen, thawed
from mirrorstair.quick import Quick
from mirrorstair.stair import Stair
from mirrorstair.walk import Walk
from tests.helpers import LOOP, MANY, READERS, all_state, state, told, traced
from tests.programs import Maker

BIG = 10 ** 40 - 1
# Written values that are none, wherever they stand.
NO_VALUES = (
    "x", "word", "()", "(word)", "(word 1)", "(word yes)", "(word (x))", "(word x y)", "(built)", "(built x)", "(built no)",
    "(built say)", "(built plus plus)", "(built (plus))", "(built 1)", "(list x)", "(list (word x) ())", "(list (word 1))",
    "(lists 1)", "(number 1)", "(1)", "(yes)", "((list))", "(fun)", "(fun (x))", "(fun (x) 1)", "(fun (x) 1 () ())",
    "(fun x 1 ())", "(fun 1 1 ())", "(fun yes 1 ())", "(fun (1) 1 ())", "(fun (yes) 1 ())", "(fun ((x)) 1 ())",
    "(fun (x x) 1 ())", "(fun (x y x) 1 ())", "(fun (x) x ())", "(fun (x) () ())", "(fun (x) (plus x x) ())",
    "(fun (x) 1 x)", "(fun (x) 1 1)", "(fun (x) 1 no)", "(fun (x) 1 (x))", "(fun (x) 1 (()))", "(fun (x) 1 ((x)))",
    "(fun (x) 1 ((x 1 2)))", "(fun (x) 1 ((1 1)))", "(fun (x) 1 ((yes 1)))", "(fun (x) 1 (((x) 1)))", "(fun (x) 1 ((x y)))",
    "(fun (x) 1 ((x 1) 5))", "(fun (x) 1 ((x ())))", "(fun (x) (fun (y) z ()) ())", "(fun (x) (list (fun (y y) 1 ())) ())",
    "(fun (x) 1 ((f (fun (y) 1 (z)))))", "(fun (x) 1 (list))",
)
VALUES = (
    ("5", "5", "5"), ("-7", "-7", "-7"), ("yes", "yes", "yes"), ("no", "no", "no"), ("()", "(list)", "()"),
    (str(BIG), str(BIG), str(BIG)), (str(-BIG), str(-BIG), str(-BIG)),
    ("(say a)", "(word a)", "a"), ("(say word)", "(word word)", "word"), ("(say abcdefghijkl)", "(word abcdefghijkl)", "abcdefghijkl"),
    ("(say (a 1 (yes ()) list))", "(list (word a) 1 (list yes (list)) (word list))", "(a 1 (yes ()) list)"),
    ("plus", "(built plus)", "<.plus>"), ("reader", "(built reader)", "<.reader>"),
    ("(fun (x) x)", "(fun (x) (word x) ())", "<x>"), ("(fun () 1)", "(fun () 1 ())", "<>"),
    ("(fun (x y) (plus x (say ())))",
     "(fun (x y) (list (word plus) (word x) (list (word say) (list))) ())", "<x y>"),
    ("(let a 1 (fun (x) a))", "(fun (x) (word a) ((a 1)))", "<x>"),
    ("(let a 1 (let b (say (c)) (let a plus (fun () yes))))", "(fun () yes ((a (built plus)) (b (list (word c))) (a 1)))", "<>"),
    ("(let f (fun (x) x) (let g (fun (y) (f y)) (fun (z) (g z))))",
     "(fun (z) (list (word g) (word z)) ((g (fun (y) (list (word f) (word y)) ((f (fun (x) (word x) ())))))"
     " (f (fun (x) (word x) ()))))", "<z>"),
    ("(join plus (join (fun (x) 1) (say (a))))", "(list (built plus) (fun (x) 1 ()) (word a))", "(<.plus> <x> a)"),
)


def behind(kind, *lines, height=None):
    stair = kind(height=height)
    for line in lines:
        stair.tell(line, most=MANY)
    return stair


def parts(stair):
    """The words and readers of a frozen stair, as data."""
    return read_data(frozen(stair))[3:]


class Frozen(unittest.TestCase):
    def test_of_a_new_stair(self):
        self.assertEqual("(no 0 0 () ())", frozen(Stair()))
        for height in range(13):
            self.assertEqual(f"({height} 0 0 () ())", frozen(Stair(height=height)))

    def test_of_values(self):
        for line, text, shown in VALUES:
            for kind in (Stair, Quick):
                stair = behind(kind, f"(hold x {line})")
                self.assertEqual(f"(no {stair.steps} 0 ((0 x {text})) ())", frozen(stair))

    def test_sorted_by_level_then_word(self):
        stair = behind(
            Stair, "(hold b 1)", "(up (up (hold c 2)))", "(hold a 3)", "(up (hold z 4))", "(up (hold aa 5))", "(hold ab 6)",
            "(up (up (change (say if) plus)))", "(up (change (say put) plain))", "(up (change (say let) plain))",
            "(up (change (say give) hand))",
        )
        self.assertEqual((
            ((0, "a", 3), (0, "ab", 6), (0, "b", 1), (1, "aa", 5), (1, "z", 4), (2, "c", 2)),
            ((1, "give", ("built", "hand")), (1, "let", ("built", "plain")), (1, "put", ("built", "plain")),
             (2, "if", ("built", "plus"))),
        ), parts(stair))

    def test_levels_by_number(self):
        stair = Stair()
        for level in (10, 2, 12, 1):
            stair.write(level, "say")
            stair.tell("(up " * level + "(hold x 1)" + ")" * level)
        self.assertEqual([1, 2, 10, 12], [row[0] for row in parts(stair)[0]])
        self.assertEqual([1, 2, 10, 12], [row[0] for row in parts(stair)[1]])

    def test_readers(self):
        stair = Stair(height=2)
        stair.tell("(up (change (say fixed) (fun (t r) t)))")
        self.assertEqual("(2 6 1 () ((1 fixed (fun (t r) (word t) ()))))", frozen(stair))
        stair.tell("(up (change (say fixed) no))")
        self.assertEqual("(2 12 1 () ())", frozen(stair))

    def test_steps_and_reached(self):
        stair = behind(Stair, "1", "(up (up 2))")
        told(stair, "(up (up (up x)))")
        self.assertEqual("(no 4 2 () ())", frozen(stair))

    def test_lines_taken_back_are_not_told(self):
        one, other = behind(Stair, "(hold x 1)", "(hold y 2)"), behind(Stair, "(hold x 1)")
        one.back()
        self.assertEqual(frozen(other), frozen(one))

    def test_stair_and_quick_told_the_same(self):
        lines = (LOOP, "(loop 5)", "(up (change (say if) (fun (t r) (plain t r))))", "(let q (loop 3) (hold g (fun (x) (q x))))")
        self.assertEqual(frozen(behind(Stair, *lines)), frozen(behind(Quick, *lines)))

    def test_changes_nothing(self):
        for kind in (Stair, Quick):
            stair = behind(kind, LOOP, "(loop 3)")
            ahead = all_state(stair)
            self.assertEqual(frozen(stair), frozen(stair=stair))
            self.assertEqual(ahead, all_state(stair))


class Thawed(unittest.TestCase):
    def same(self, stair, text):
        for quick in (False, True):
            other = thawed(text, quick=quick)
            self.assertIs(quick, isinstance(other, Quick))
            self.assertEqual(state(stair, 13), state(other, 13))
            self.assertEqual(text, frozen(other))
            other.back(many=0)
            with self.assertRaises(NoBack):
                other.back()

    def test_new_stairs(self):
        self.same(Stair(), "(no 0 0 () ())")
        for height in range(13):
            self.same(Stair(height=height), f"({height} 0 0 () ())")
        self.assertNotIsInstance(thawed("(no 0 0 () ())"), Quick)
        self.assertEqual(0, thawed("(no 0 0 () ())", quick=True).made())

    def test_values(self):
        for line, text, shown in VALUES:
            stair = behind(Stair, f"(hold x {line})")
            self.same(stair, frozen(stair))
            other = thawed(f"(3 0 0 ((0 x {text})) ())")
            self.assertEqual({"x": shown}, other.held())
            self.assertEqual(shown, other.tell("x"))

    def test_goes_on_as_the_first_one(self):
        compared = 0
        for seed in range(120):
            maker = Maker(9000 + seed, 3)
            height = (None, 3, 4)[seed % 3]
            stair = Stair(height=height)
            for at in range(5):
                told(stair, maker.line(), most=1000)
            text = frozen(stair)
            if len(text) > 50000:
                continue
            self.same(stair, text)
            others = [thawed(text), thawed(text, quick=True)]
            for at in range(5):
                line = maker.line()
                rows, answer = traced(stair, line, most=1000), told(stair, line, most=1000)
                for other in others:
                    self.assertEqual(rows, traced(other, line, most=1000))
                    self.assertEqual(answer, told(other, line, most=1000))
                    self.assertEqual(state(stair), state(other))
                    self.assertEqual(frozen(stair), frozen(other))
                compared += not answer.startswith("!")
            others[0].back(many=0)
        self.assertGreater(compared, 150)

    def test_written_readers(self):
        stair = behind(Stair, LOOP)
        for level in (1, 2):
            for kind in READERS:
                stair.write(level, kind)
        self.same(stair, frozen(stair))
        other = thawed(frozen(stair), quick=True)
        self.assertEqual(stair.tell("(loop 2)", most=MANY), other.tell("(loop 2)", most=MANY))
        self.assertEqual(state(stair), state(other))

    def test_lines_behind_it_may_be_taken_back(self):
        stair = thawed("(no 7 2 ((0 x 1)) ())")
        stair.tell("(hold x 2)")
        stair.write(1, "if")
        stair.back(many=2)
        self.assertEqual("(no 7 2 ((0 x 1)) ())", frozen(stair))
        with self.assertRaises(NoBack):
            stair.back()

    def test_of_a_height(self):
        stair = thawed("(1 0 0 () ())")
        with self.assertRaises(TooHigh):
            stair.tell("(up (up 1))")

    def test_walks_and_copies(self):
        stair = thawed("(no 7 2 ((0 x 1)) ())")
        walk = Walk(stair, "(hold x (plus x 1))")
        while not walk.over():
            walk.step()
        self.assertEqual("(no 13 2 ((0 x 2)) ())", frozen(walk.settled()))
        self.assertEqual(frozen(stair), frozen(stair.copy()))

    def test_two_do_not_see_one_another(self):
        text = "(no 0 0 ((0 x 1)) ((1 if (built plain))))"
        one, other = thawed(text), thawed(text)
        one.tell("(hold x 2)")
        one.tell("(up (change (say if) no))")
        self.assertEqual(text, frozen(other))

    def test_deep(self):
        stair = behind(
            Stair, "(hold deep (let g (fun (g n l) (if (less n 1) l (g g (minus n 1) (join l ())))) (g g 399 ())))",
            "(hold funs (let g (fun (g n f) (if (less n 1) f (g g (minus n 1) (fun () (f))))) (g g 3 (fun () 5))))",
        )
        self.same(stair, frozen(stair))
        text = "(no 0 0 ((0 f " + "(fun () 1 ((f " * 2900 + "1" + ")))" * 2900 + ")) ())"
        self.assertLess(len(text), 50000)
        other = thawed(text)
        self.assertEqual(text, frozen(other))
        self.assertEqual("1", other.tell("(f)"))
        text = "(no 0 0 ((0 f " + "(list " * 400 + "1" + ")" * 400 + ")) ())"
        self.assertEqual(text, frozen(thawed(text, quick=True)))

    def test_long(self):
        text = "(no 0 0 ((0 f (list" + " (word abc)" * 4400 + "))) ())"
        other = thawed(text)
        self.assertEqual(text, frozen(other))
        self.assertEqual("4400", other.tell("(count f)"))

    def test_arguments(self):
        self.assertIsInstance(thawed(text="(no 0 0 () ())", quick=True), Quick)
        with self.assertRaises(TypeError):
            thawed("(no 0 0 () ())", True)


class Refused(unittest.TestCase):
    def refused(self, text):
        read_data(text)
        for quick in (False, True):
            with self.assertRaises(NoStair, msg=text):
                thawed(text, quick=quick)

    def taken(self, text):
        for quick in (False, True):
            self.assertEqual(text, frozen(thawed(text, quick=quick)))

    def test_no_texts(self):
        for text, at in (
            ("", 0), ("(no 0 0 () ()", 13), ("(no 0 0 () ()) ", 14), ("(no  0 0 () ())", 4), ("(no 00 0 () ())", 5), (5, 0),
            (None, 0), (Stair(), 0), ((), 0), ("(no 0 0 (1 () ())!", 17), (f"(no 1{BIG} 0 () ())", 44),
        ):
            with self.assertRaises(BadText) as caught:
                thawed(text)
            self.assertEqual(at, caught.exception.at, text)

    def test_no_such_lists(self):
        for text in (
            "5", "no", "yes", "x", "()", "(no)", "(no 0 0 ())", "(no 0 0 () () ())", "(no 0 0 () () 0)", "((no 0 0 () ()))",
            "(no 0 0 () no)", "(no 0 0 no ())", "(no 0 0 0 ())", "(no 0 0 () 0)", "(no 0 0 x ())", "(no 0 0 () x)",
        ):
            self.refused(text)

    def test_heights(self):
        for height in ("yes", "13", "-1", "100", "x", "()", "(1)", "word", str(BIG)):
            self.refused(f"({height} 0 0 () ())")
        for height in ("no", "0", "1", "12"):
            self.taken(f"({height} 0 0 () ())")

    def test_steps_and_reached(self):
        for wrong in ("-1", "yes", "no", "x", "()", "(1)", str(-BIG)):
            self.refused(f"(no {wrong} 0 () ())")
            self.refused(f"(no 0 {wrong} () ())")
            self.refused(f"(3 {wrong} 0 () ())")
        for right in ("0", "1", "13", "4000", str(BIG)):
            self.taken(f"(no {right} 0 () ())")
            self.taken(f"(no 0 {right} () ())")
            self.taken(f"(0 {right} 0 () ())")
        for height in range(13):
            self.taken(f"({height} 0 {height} () ())")
            self.refused(f"({height} 0 {height + 1} () ())")

    def test_rows(self):
        for row in (
            "5", "x", "yes", "()", "(0)", "(0 x)", "(0 x 1 2)", "(x 0 1)", "(yes x 1)", "(no x 1)", "(-1 x 1)", "(13 x 1)",
            "((0) x 1)", "(0 1 1)", "(0 yes 1)", "(0 (x) 1)", "(0 () 1)", f"({BIG} x 1)",
        ):
            self.refused(f"(no 0 0 ({row}) ())")
        for row in (
            "5", "if", "()", "(1)", "(1 if)", "(1 if (built plus) 1)", "(if 1 (built plus))", "(0 if (built plus))",
            "(-1 if (built plus))", "(13 if (built plus))", "(yes if (built plus))", "(1 x (built plus))",
            "(1 plus (built plus))", "(1 kind (built plus))", "(1 1 (built plus))", "(1 yes (built plus))",
            "(1 (if) (built plus))", "((1) if (built plus))",
        ):
            self.refused(f"(no 0 0 () ({row}))")

    def test_levels(self):
        for level in range(13):
            self.taken(f"(no 0 0 (({level} x 1)) ())")
            if level:
                self.taken(f"(no 0 0 () (({level} give (built hand))))")
        for height in (0, 1, 5, 12):
            for level in range(15):
                words, readers = f"({height} 0 0 (({level} x 1)) ())", f"({height} 0 0 () (({level} give (built hand))))"
                if level <= height:
                    self.taken(words)
                else:
                    self.refused(words)
                if 1 <= level <= height:
                    self.taken(readers)
                else:
                    self.refused(readers)

    def test_order(self):
        for rows in ("(0 a 1) (0 b 1)", "(0 b 1) (1 a 1)", "(0 a 1) (0 aa 1) (0 b 1) (2 a 1) (10 a 1)"):
            self.taken(f"(no 0 0 ({rows}) ())")
        for rows in (
            "(0 a 1) (0 a 1)", "(0 a 1) (0 a 2)", "(0 b 1) (0 a 1)", "(1 a 1) (0 b 1)", "(0 aa 1) (0 a 1)",
            "(10 a 1) (2 a 1)", "(0 a 1) (0 b 1) (0 a 1)", "(0 a 1) (1 a 1) (0 b 1)",
        ):
            self.refused(f"(no 0 0 ({rows}) ())")
        f = "(built hand)"
        for rows in (f"(1 give {f}) (1 if {f})", f"(1 put {f}) (2 give {f})"):
            self.taken(f"(no 0 0 () ({rows}))")
        for rows in (f"(1 give {f}) (1 give {f})", f"(1 if {f}) (1 give {f})", f"(2 give {f}) (1 put {f})"):
            self.refused(f"(no 0 0 () ({rows}))")

    def test_kinds(self):
        for kind in READERS:
            self.taken(f"(12 0 0 () ((12 {kind} (fun (t r) (word t) ()))))")

    def test_values(self):
        for text in NO_VALUES:
            self.refused(f"(no 0 0 ((0 x {text})) ())")
            self.refused(f"(no 0 0 ((0 x (list 1 {text}))) ())")
            self.refused(f"(no 0 0 ((0 a 1) (3 x (fun () {text} ()))) ())")
            self.refused(f"(no 0 0 ((0 x (fun () 1 ((a 1) (b {text}))))) ())")
            self.refused(f"(no 0 0 () ((1 if {text})))")
            self.refused(f"(no 0 0 () ((1 if (fun (t r) {text} ()))))")
        for line, text, shown in VALUES:
            self.taken(f"(no 0 0 ((0 x {text})) ())")
            self.taken(f"(no 0 0 ((0 x (list {text} {text}))) ())")
            self.taken(f"(no 0 0 ((0 x (fun (a) {text} ((a {text}) (a {text}))))) ())")

    def test_readers_are_functions(self):
        for line, text, shown in VALUES:
            if text.startswith("(fun") or text.startswith("(built"):
                self.taken(f"(no 0 0 () ((1 if {text})))")
            else:
                self.refused(f"(no 0 0 () ((1 if {text})))")

    def test_all_built_in_ones(self):
        for word in (
            "plus minus times less alike first rest join count part is fault here "
            "read plain reads give hand made look keep change reader"
        ).split():
            self.taken(f"(no 0 0 ((0 x (built {word}))) ())")
        for word in ("say if fun let hold heed up put fixed name tell x yes").split()[:-1]:
            self.refused(f"(no 0 0 ((0 x (built {word}))) ())")

    def test_spoilt_by_chance(self):
        """A frozen stair in which one thing is left out, doubled or changed is another one, or none."""
        stair = behind(Stair, "(hold f (let a 1 (fun (x) (plus a x))))", "(up (hold y (say (a 1))))", height=3)
        stair.write(1, "let")
        datum = read_data(frozen(stair))
        for spoilt in self.spoilings(datum):
            text = data_text(spoilt)
            try:
                other = thawed(text)
            except NoStair:
                continue
            self.assertEqual(text, frozen(other))

    def spoilings(self, datum):
        yield from (5, -1, "x", True, False, (), ("word", "x"))
        if isinstance(datum, tuple):
            for at, part in enumerate(datum):
                yield datum[:at] + datum[at + 1:]
                yield datum[:at] + (part, part) + datum[at + 1:]
                for spoilt in self.spoilings(part):
                    yield datum[:at] + (spoilt,) + datum[at + 1:]

"""Points 9 and 11: giving, built-in ones, and tables."""

import unittest

from mirrorstair.stair import Stair
from tests.helpers import KINDS, READERS, answer, told

SAMPLES = {
    "number": ("3", "0", "-2"),
    "truth": ("yes", "no"),
    "word": ("(say w)",),
    "list": ("(say (1 2))",),
    "empty": ("()",),
    "fun": ("(fun (x) x)", "plus"),
}
ANY = tuple(SAMPLES)
LIST = ("list", "empty")
# Which sorts each value may be of, and values that are right; room stands for what must be a room.
TAKES = {
    "plus": (("number",), ("number",)), "minus": (("number",), ("number",)), "times": (("number",), ("number",)),
    "less": (("number",), ("number",)), "first": (("list",),), "rest": (("list",),), "join": (ANY, LIST),
    "count": (LIST,), "fault": (("word",),),
    "alike": (("number", "truth", "word", "list", "empty"), ("number", "truth", "word", "list", "empty")),
    "part": (("list",), ("number",)), "is": (("word",), ANY), "here": (ANY, "room"),
    "read": (ANY, "room"), "plain": (ANY, "room"), "reads": (LIST, "room"), "give": (ANY, LIST), "hand": (ANY, LIST),
    "made": (ANY, "room"), "look": (("word",), "room"), "keep": (("word",), ANY),
    "change": (("word",), ("fun",)), "reader": (("word",),),
}
RIGHT = {
    "part": ("(say (1 2))", "1"), "is": ("(say number)", "1"), "change": ("(say if)", "plus"), "reader": ("(say if)",),
    "made": ("(say (fun (x) x))", "()"), "look": ("(say plus)", "()"), "give": ("plus", "(say (1 2))"),
    "hand": ("plus", "(say (1 2))"), "here": ("1", "()"), "read": ("1", "()"), "plain": ("1", "()"),
    "reads": ("(say (1 2))", "()"), "fault": ("(say count)",),
}
BELOW = ("read", "plain", "reads", "give", "hand", "made", "look", "keep", "change", "reader")
NO_ROOMS = (
    "5", "yes", "(say w)", "plus", "(fun (x) x)", "(say (x))", "(say ((x)))", "(say ((x 1 2)))", "(say ((1 x)))",
    "(say (((x) 1)))", "(say ((x 1) 5))", "(say ((yes 1)))", "(say ((x 1) ()))", "(say (x 1))", "(say ((x 1) (y)))",
)
RESULTS = (
    ("(plus 2 3)", "5"), ("(plus 2 -3)", "-1"), ("(minus 2 3)", "-1"), ("(times 4 -3)", "-12"), ("(times 0 -3)", "0"),
    ("(less 1 2)", "yes"), ("(less 2 2)", "no"), ("(less 3 2)", "no"), ("(less -3 2)", "yes"),
    ("(alike 1 1)", "yes"), ("(alike 1 2)", "no"), ("(alike 1 yes)", "no"), ("(alike yes 1)", "no"), ("(alike 0 no)", "no"),
    ("(alike yes yes)", "yes"), ("(alike yes no)", "no"), ("(alike no no)", "yes"), ("(alike () ())", "yes"),
    ("(alike (say a) (say a))", "yes"), ("(alike (say a) (say b))", "no"), ("(alike (say (1 yes)) (say (yes yes)))", "no"),
    ("(alike (say (a (1 (b)))) (say (a (1 (b)))))", "yes"), ("(alike (say (a (1 (b)))) (say (a (1 (c)))))", "no"),
    ("(alike (say (1 2)) (say (1 2 3)))", "no"), ("(alike (say (1)) 1)", "no"), ("(alike 1 (say (1)))", "no"),
    ("(alike () 0)", "no"), ("(alike () no)", "no"), ("(alike (say ((0))) (say ((no))))", "no"),
    ("(alike (join plus ()) (say (1)))", "!sort"), ("(alike (say (1)) (join (join (fun () 1) ()) ()))", "!sort"),
    ("(alike 1 (join plus ()))", "!sort"), ("(alike (say (1 2)) (join plus ()))", "!sort"),
    ("(first (say (a b)))", "a"), ("(rest (say (a b)))", "(b)"), ("(rest (say (a)))", "()"), ("(first (say ((1) 2)))", "(1)"),
    ("(join 1 ())", "(1)"), ("(join (say (1)) (say (2 3)))", "((1) 2 3)"), ("(join plus (say (2)))", "(<.plus> 2)"),
    ("(count ())", "0"), ("(count (say (a (b c) d)))", "3"),
    ("(part (say (a b c)) 0)", "a"), ("(part (say (a b c)) 2)", "c"), ("(part (say (a b c)) 3)", "!sort"),
    ("(part (say (a b c)) -1)", "!sort"), ("(part () 0)", "!sort"), ("(part (say abc) 0)", "!sort"), ("(part (say (a b)) no)", "!sort"),
    ("(is (say numbers) 1)", "!sort"), ("(is (say name) 1)", "!sort"), ("(is (say empty) ())", "!sort"),
    ("(fault (say abc))", "!abc"),
    ("(here (say (plus x 1)) (say ((x 4))))", "5"), ("(here (say x) ())", "!unknown"),
    ("(here (say (say x)) ())", "x"), ("(let y 3 (here (say y) ()))", "!unknown"), ("(here (say ()) ())", "()"),
)
BELOW_RESULTS = (
    ("(read (say (plus x 1)) (say ((x 4))))", "5"), ("(read (say x) ())", "!unknown"), ("(read plus ())", "<.plus>"),
    ("(plain (say (plus x 1)) (say ((x 4))))", "5"), ("(plain (say (say)) ())", "!shape"), ("(plain (say x) ())", "!unknown"),
    ("(reads (say (1 (say a) x (plus 1 2))) (say ((x 4))))", "(1 a 4 3)"), ("(reads () ())", "()"),
    ("(reads (say (1 x (fault (say late)))) ())", "!unknown"),
    ("(give plus (say (1 2)))", "3"), ("(give (fun (x) (join x ())) (say (a)))", "(a)"), ("(give (fun () 5) ())", "5"),
    ("(give 5 ())", "!sort"), ("(give plus (say (1)))", "!count"), ("(give (fun (x) x) ())", "!count"),
    ("(hand plus (say (1 2)))", "3"), ("(hand (fun (x) (join x ())) (say (a)))", "(a)"), ("(hand (fun () 5) ())", "5"),
    ("(hand 5 ())", "!sort"), ("(hand plus (say (1)))", "!count"), ("(hand (fun (x) x) ())", "!count"),
    ("(made (say (fun (x y) x)) ())", "<x y>"), ("((made (say (fun () z)) (say ((z 6)))))", "6"),
    ("(made (say (fun (x x) x)) ())", "!shape"), ("(made (say (fun (x))) ())", "!shape"), ("(made (say x) ())", "!shape"),
    ("(made 5 ())", "!shape"), ("(made () ())", "!shape"), ("(made (say (say x)) ())", "!shape"), ("(made plus ())", "!shape"),
    ("(made (say (let x 1)) ())", "!shape"), ("(made (say fun) ())", "!shape"), ("(made (fun (x) x) ())", "!shape"),
    ("(look (say plus) ())", "<.plus>"), ("(look (say x) (say ((x 8) (x 9))))", "8"), ("(look (say x) ())", "!unknown"),
    ("(keep (say x) 5)", "5"), ("(keep (say x) plus)", "<.plus>"),
    ("(change (say if) plus)", "<.plus>"), ("(change (say give) (fun (v a) (hand v a)))", "<v a>"), ("(change (say if) no)", "no"),
    ("(change (say if) yes)", "!sort"), ("(change (say if) 0)", "!sort"), ("(change (say if) ())", "!sort"),
    ("(change (say if) (say no))", "no"), ("(change (say if) (say w))", "!sort"), ("(change (say plus) plus)", "!sort"),
    ("(change (say iff) no)", "!sort"), ("(change 5 no)", "!sort"), ("(change (say (if)) no)", "!sort"),
    ("(reader (say if))", "no"), ("(reader (say plus))", "!sort"), ("(reader (say ()))", "!sort"),
)


def raised(line, level):
    for at in range(level):
        line = f"(up {line})"
    return line


def right(word):
    """Values that a built-in one takes."""
    if word in RIGHT:
        return list(RIGHT[word])
    return [SAMPLES[sorts[0]][0] for sorts in TAKES[word]]


def put(word, values):
    return "(" + " ".join([word] + list(values)) + ")"


class Built(unittest.TestCase):
    def test_results(self):
        for line, expected in RESULTS:
            for level in (0, 1, 3):
                with self.subTest(line=line, level=level):
                    self.assertEqual(expected, answer(raised(line, level)))

    def test_results_below(self):
        for line, expected in BELOW_RESULTS:
            for level in (1, 2, 4):
                with self.subTest(line=line, level=level):
                    self.assertEqual(expected, answer(raised(line, level)))

    def test_each_is_one(self):
        for word in TAKES:
            self.assertEqual(f"<.{word}>", answer(word))
            self.assertEqual(f"<.{word}>", answer(f"(up {word})"))

    def test_sorts_of_is(self):
        names = {"empty": "list"}
        for asked in ("number", "truth", "word", "list", "fun"):
            for sort, samples in SAMPLES.items():
                for sample in samples:
                    expected = "yes" if names.get(sort, sort) == asked else "no"
                    self.assertEqual(expected, answer(f"(is (say {asked}) {sample})"))

    def test_counts(self):
        for word in TAKES:
            values = right(word)
            for level in (0, 1, 2):
                for wrong in (values[1:], values + ["1"], [], values + values):
                    if len(wrong) != len(values):
                        self.assertEqual("!count", answer(raised(put(word, wrong), level)), word)

    def test_right_values(self):
        for word in TAKES:
            self.assertNotIn(answer(raised(put(word, right(word)), 1)), ("!sort", "!ground", "!room", "!shape"), word)

    def test_other_sorts(self):
        for word, takes in TAKES.items():
            level = 1 if word in BELOW else 0
            for at, sorts in enumerate(takes):
                for sort, samples in SAMPLES.items():
                    if sorts == "room" or sort in sorts:
                        continue
                    for sample in samples:
                        if word == "change" and at == 1 and sample == "no":
                            continue
                        values = right(word)
                        values[at] = sample
                        line = put(word, values)
                        with self.subTest(line=line):
                            self.assertEqual("!sort", answer(raised(line, level)))
                            self.assertEqual("!sort", answer(raised(line, level + 1)))

    def test_ground(self):
        for word in BELOW:
            self.assertEqual("!ground", answer(put(word, right(word))))
            # Behind count, and ahead of sorts, rooms and shapes.
            self.assertEqual("!count", answer(put(word, right(word) + ["1"])))
            self.assertEqual("!count", answer(put(word, [])))
            self.assertEqual("!ground", answer(put(word, ["plus"] * len(right(word)))))
            self.assertEqual("!ground", answer(put(word, ["5"] * len(right(word)))))
            self.assertEqual("!ground", answer(f"(up (hand {word} {'(say (1 2))' if word != 'reader' else '(say (1))'}))"))
        self.assertEqual("1", answer("(here 1 ())"))

    def test_rooms(self):
        for word, takes in TAKES.items():
            if takes[-1] != "room":
                continue
            level = 1 if word in BELOW else 0
            for room in NO_ROOMS:
                with self.subTest(word=word, room=room):
                    line = put(word, right(word)[:1] + [room])
                    self.assertEqual("!room", answer(raised(line, level)))
                    self.assertEqual("!count", answer(raised(put(word, ["1", room, "1"]), level)))
            line = put(word, right(word)[:1] + ["(say ((x 1) (x (2)) (plus ())))"])
            self.assertFalse(answer(raised(line, level)).startswith("!"), word)

    def test_the_order_of_faults(self):
        for line, expected in (
            ("(reads 5 5)", "!sort"), ("(reads (say w) (say (1)))", "!sort"), ("(reads () 5)", "!room"),
            ("(look 5 5)", "!sort"), ("(look (say x) 5)", "!room"), ("(look plus (say (1)))", "!sort"),
            ("(made 5 5)", "!room"), ("(made (say (fun)) 5)", "!room"), ("(made (say (fun)) ())", "!shape"),
            ("(plain (say (say)) 5)", "!room"), ("(read (say x) 5)", "!room"), ("(here (say x) 5)", "!room"),
            ("(reads (say (x)) 5)", "!room"), ("(change (say plus) 5)", "!sort"),
        ):
            self.assertEqual(expected, answer(f"(up {line})"), line)

    def test_great(self):
        top = "9" * 40
        for line, expected in (
            (f"(plus {top} 0)", top), (f"(plus {top} 1)", "!great"), (f"(plus -{top} -1)", "!great"),
            (f"(minus -{top} 1)", "!great"), (f"(minus {top} {top})", "0"), (f"(minus -{top} 0)", "-" + top),
            (f"(times {top} 1)", top), (f"(times {top} 2)", "!great"), (f"(times {top} -2)", "!great"),
            (f"(times 1{'0' * 20} 1{'0' * 19})", "1" + "0" * 39), (f"(times 1{'0' * 20} 1{'0' * 20})", "!great"),
            (f"(times {top} -1)", "-" + top), (f"(plus 5{'0' * 39} 5{'0' * 39})", "!great"),
        ):
            self.assertEqual(expected, answer(line), line)

    def test_deep_and_wide_values(self):
        build = "(hold grow (fun (n x) (if (less n 1) x (grow (minus n 1) (join x ())))))"
        deep = "(" * 400 + "1" + ")" * 400
        self.assertEqual(deep, answer(build, "(grow 400 1)"))
        self.assertEqual("yes", answer(build, "(alike (grow 400 1) (grow 400 1))"))
        self.assertEqual("no", answer(build, "(alike (grow 400 1) (grow 400 2))"))
        self.assertEqual("no", answer(build, "(alike (grow 400 1) (grow 399 1))"))
        self.assertEqual("!sort", answer(build, "(alike (grow 400 plus) 1)"))
        wide = "(hold wide (fun (n x) (if (less n 1) x (wide (minus n 1) (join n x)))))"
        self.assertEqual("5000", answer(wide, "(count (wide 5000 ()))"))


class Giving(unittest.TestCase):
    def test_handed(self):
        for line, expected in (
            ("((fun () 1))", "1"), ("((fun (x) x) 2)", "2"), ("((fun (x y) x) 2 3)", "2"), ("(1)", "!sort"), ("(1 2)", "!sort"),
            ("((say plus) 1 2)", "!sort"), ("((say (1)))", "!sort"), ("((fun (x) x))", "!count"), ("(no)", "!sort"),
        ):
            self.assertEqual(expected, answer(line))
            self.assertEqual(expected, answer(f"(up {line})"))

    def test_reader_for_give(self):
        lines = ("(up (change (say give) (fun (v a) (join v a))))",)
        self.assertEqual("(<.plus> 1 2)", answer(*lines, "(plus 1 2)"))
        self.assertEqual("(5)", answer(*lines, "(5)"))
        self.assertEqual("(<x> (1) 2)", answer(*lines, "((fun (x) x) (say (1)) 2)"))
        # Heeding gives, too; readers that are given a thing are given it a level above.
        self.assertEqual("(<w> unknown)", answer(*lines, "(heed x (fun (w) w))"))
        self.assertEqual("(<.plus> 1 2)", answer(*lines, "(up (give plus (say (1 2))))"))
        self.assertEqual("3", answer(*lines, "(up (hand plus (say (1 2))))"))
        self.assertEqual("3", answer(*lines, "(up (plus 1 2))"))

    def test_reader_for_give_of_readers(self):
        # A reader of level 1 is given at level 1: the table of level 2 has a word in it.
        lines = ("(up (change (say fixed) (fun (t r) (plus t 1))))",
                 "(up (up (change (say give) (fun (v a) (let x (hand v a) (join x ()))))))")
        self.assertEqual("((2))", answer(*lines, "1"))
        lines = ("(up (change (say fixed) (fun (t r) (join t ()))))",
                 "(up (up (change (say give) (fun (v a) (let x (hand v a) (join (say up) x))))))")
        self.assertEqual("(up up 1)", answer(*lines, "1"))


class Tables(unittest.TestCase):
    THINGS = {
        "name": "plus", "say": "(say 1)", "if": "(if yes 1 2)", "fun": "(fun (x) x)", "let": "(let x 1 x)",
        "hold": "(hold x 1)", "heed": "(heed 1 (fun (w) w))", "up": "(up 1)", "put": "(plus 1 2)", "fixed": "7",
    }

    def test_changed_readers_read_their_kind_only(self):
        for kind in KINDS:
            stair = Stair()
            stair.tell(f"(up (change (say {kind}) (fun (t r) (plain t r))))")
            self.assertEqual([kind], stair.readers(1))
            for other in KINDS:
                rows = stair.trace(self.THINGS[other])
                self.assertEqual(other, rows[0][1])
                for row in rows:
                    self.assertEqual("table" if row[0] == 0 and row[1] == kind else "plain", row[2])
            stair.tell(f"(up (change (say {kind}) (fun (t r) (say changed))))")
            self.assertEqual("changed", stair.tell(self.THINGS[kind]))

    def test_only_the_level_just_below(self):
        for kind in KINDS:
            thing = self.THINGS[kind]
            # At level 2, so that going there is not read by it.
            stair = Stair()
            expected = stair.tell(f"(up (up {thing}))")
            stair.tell(f"(up (up (change (say {kind}) (fun (t r) (say changed)))))")
            self.assertEqual("changed", stair.tell(f"(up {thing})"))
            if kind != "up":
                self.assertEqual(expected, stair.tell(f"(up (up {thing}))"))
            self.assertEqual([[], [], [kind], []], [stair.readers(level) for level in range(4)])
            self.assertEqual({"plain"}, {row[2] for row in stair.trace(thing) if row[0] == 0})

    def test_readers_are_given_the_thing_and_the_room(self):
        for kind in KINDS:
            stair = Stair()
            stair.tell(f"(up (change (say {kind}) (fun (t r) (join t (join r ())))))")
            thing = self.THINGS[kind]
            shown = "2" if kind == "fixed" else thing
            line = shown if kind in ("let", "fun") else f"(let q (fun () 1) {shown})"
            room = "()" if kind in ("let", "fun") else "((q <>))"
            self.assertEqual(f"({shown} {room})", stair.tell(line))

    def test_readers_taken_out_again(self):
        for kind in READERS:
            stair = Stair()
            # One line each, for a changed up leads to level 1 no more.
            line = f"""(up (let k (say {kind}) (let f (fun (t r) 5)
                (join (reader k) (join (change k f) (join (reader k) (join (change k no) (join (reader k)
                (join (change k no) ()))))))))) """
            line = " ".join(line.split())
            self.assertEqual("(no <t r> <t r> no no no)", stair.tell(line))
            self.assertEqual([], stair.readers(1))
            self.assertEqual("<t r>", stair.tell(f"(up (change (say {kind}) (fun (t r) 5)))"))
            self.assertEqual([kind], stair.readers(1))
            self.assertEqual([kind], stair.readers())

    def test_readers_of_each_level(self):
        stair = Stair()
        stair.tell("(up (change (say if) plus))")
        stair.tell("(up (up (change (say give) hand)))")
        stair.tell("(up (up (change (say fun) made)))")
        self.assertEqual([[], ["if"], ["fun", "give"], []], [stair.readers(level) for level in range(4)])
        self.assertEqual(["<.plus>", "no"], [stair.tell("(up (reader (say if)))"), stair.tell("(up (up (reader (say if))))")])
        self.assertEqual("<.hand>", stair.tell("(up (up (reader (say give))))"))

    def test_built_in_readers(self):
        self.assertEqual("<.plus>", answer("(up (change (say name) look))", "plus"))
        self.assertEqual("3", answer("(up (change (say give) hand))", "(plus 1 2)"))
        self.assertEqual("<x>", answer("(up (change (say fun) made))", "(fun (x) x)"))
        self.assertEqual("3", answer("(up (change (say put) plain))", "(plus 1 2)"))
        self.assertEqual("(1)", answer("(up (change (say fixed) join))", "1"))
        self.assertEqual("!count", answer("(up (change (say fixed) first))", "1"))
        self.assertEqual("4", answer("(up (hold x 4))", "(up (change (say name) here))", "x"))

    def test_seen_from_the_very_next_thing_on(self):
        change = "(up (change (say fixed) (fun (t r) (plus t 100))))"
        self.assertEqual("(1 102)", answer(f"(let k (fun (a b c) (join a (join c (say ())))) (k 1 {change} 2))"))
        self.assertEqual("(101 2)", answer(
            change, "(let k (fun (a b c) (join a (join c (say ())))) (k 1 (up (change (say fixed) no)) 2))"))
        # Within a thing that is being read by another reader.
        self.assertEqual("(<.plus> 1 2)", answer(
            "(plus 1 (let x (up (change (say give) (fun (v a) (join v a)))) 2))"))

    def test_read_by_a_reader_plain_not(self):
        lines = ("(up (change (say fixed) (fun (t r) (say odd))))",)
        self.assertEqual("odd", answer(*lines, "(up (read 1 ()))"))
        self.assertEqual("1", answer(*lines, "(up (plain 1 ()))"))
        self.assertEqual("(odd odd)", answer(*lines, "(up (reads (say (1 2)) ()))"))
        # The parts of what is read plainly are read as ever.
        self.assertEqual("!choice", answer(*lines, "(up (plain (say (if yes 1 2)) ()))"))
        self.assertEqual("(odd)", answer(*lines, "(up (plain (say (join 1 (say ()))) ()))"))

    def test_look_and_made_use_no_reader(self):
        lines = ("(up (change (say name) (fun (t r) 1)))", "(up (change (say fun) (fun (t r) 1)))")
        self.assertEqual("<.plus>", answer(*lines, "(up (look (say plus) ()))"))
        self.assertEqual("<x>", answer(*lines, "(up (made (say (fun (x) x)) ()))"))

    def test_keep_and_look_are_of_the_level_below(self):
        stair = Stair()
        stair.tell("(up (keep (say x) 5))")
        stair.tell("(up (up (keep (say x) 6)))")
        self.assertEqual([{"x": "5"}, {"x": "6"}, {}], [stair.held(level) for level in range(3)])
        self.assertEqual(["5", "6"], [stair.tell("(up (look (say x) ()))"), stair.tell("(up (up (look (say x) ())))")])
        self.assertEqual("7", stair.tell("(up (look (say x) (say ((x 7)))))"))

    def test_handed_and_given_at_the_level_below(self):
        self.assertEqual("0", answer("(hold l 0)", "(up (hold l 1))", "(up (hand (fun () l) ()))"))
        self.assertEqual("0", answer("(hold l 0)", "(up (hold l 1))", "(up (give (fun () l) ()))"))
        self.assertEqual("1", answer("(hold l 0)", "(up (hold l 1))", "(up ((fun () l)))"))
        self.assertEqual("1", answer("(hold l 0)", "(up (hold l 1))", "(up (here (say l) ()))"))
        self.assertEqual("0", answer("(hold l 0)", "(up (hold l 1))", "(up (read (say l) ()))"))
        self.assertEqual("(0 0)", answer("(hold l 0)", "(up (hold l 1))", "(up (reads (say (l l)) ()))"))
        self.assertEqual("0", answer("(hold l 0)", "(up (up (hand hand (join (fun () l) (say (()))))))"))

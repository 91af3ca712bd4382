"""Points 7, 8 and 10: reading plainly, kind by kind, shapes, and faults."""

import unittest

from mirrorstair.stair import Stair
from tests.helpers import answer, told

HEEDED = "(fun (w) w)"
# Lists of the seven words that are not as written, some with what would go wrong or be held within.
MISSHAPEN = (
    "(say)", "(say 1 2)", "(say x y z)",
    "(if)", "(if yes)", "(if yes 1)", "(if yes 1 2 3)", "(if 1 2)", "(if (hold x 9) 1)", "(if x 1 2 3)",
    "(fun)", "(fun (x))", "(fun (x) x x)", "(fun x x)", "(fun 1 x)", "(fun (1) x)", "(fun (x x) x)",
    "(fun (x y x) x)", "(fun (x (y)) x)", "(fun (yes) x)", "(fun (x no) x)", "(fun yes x)", "(fun (()) 1)",
    "(let)", "(let x)", "(let x 1)", "(let x 1 x x)", "(let 1 1 1)", "(let (x) 1 1)", "(let () 1 1)",
    "(let yes 1 1)", "(let no 1 1)", "(let 1 (hold x 9) 1)", "(let x (hold x 9))", "(let (say x) 1 1)",
    "(hold)", "(hold x)", "(hold x 1 2)", "(hold 1 1)", "(hold (x) 1)", "(hold () 1)", "(hold yes 1)",
    "(hold no 1)", "(hold 1 (hold x 9))", "(hold x (hold x 9) 1)",
    "(heed)", "(heed 1)", "(heed 1 (fun (w) w) 1)", "(heed (hold x 9))", "(heed (hold x 9) 1 2)",
    "(up)", "(up 1 2)", "(up (hold x 9) 1)", "(up 1 (up 1))",
)
PLAIN = (
    # fixed
    ("0", "0"), ("-5", "-5"), ("yes", "yes"), ("no", "no"), ("()", "()"),
    # name
    ("plus", "<.plus>"), ("x", "!unknown"), ("say", "!unknown"), ("give", "<.give>"), ("name", "!unknown"),
    # say
    ("(say x)", "x"), ("(say (if x))", "(if x)"), ("(say 5)", "5"), ("(say (say x))", "(say x)"), ("(say ())", "()"),
    # if
    ("(if yes 1 2)", "1"), ("(if no 1 2)", "2"), ("(if (less 1 2) (say a) x)", "a"), ("(if no x (say b))", "b"),
    ("(if 1 1 2)", "!choice"), ("(if 0 1 2)", "!choice"), ("(if () 1 2)", "!choice"), ("(if (say x) 1 2)", "!choice"),
    ("(if plus 1 2)", "!choice"), ("(if (say (yes)) 1 2)", "!choice"), ("(if (say yes) 1 2)", "1"), ("(if x 1 2)", "!unknown"),
    # fun
    ("(fun () x)", "<>"), ("(fun (a) (say))", "<a>"), ("((fun () 7))", "7"), ("((fun (a b) b) 1 2)", "2"),
    ("((fun (a b) (minus a b)) 5 3)", "2"), ("((let a 5 (fun (b) (plus a b))) 2)", "7"),
    ("((let a 5 (fun (a) a)) 2)", "2"), ("(let a 9 ((let a 5 (fun () a))))", "5"),
    ("(let f (fun () a) (let a 1 (f)))", "!unknown"), ("((fun (plus) plus) 3)", "3"),
    ("((fun (yess) yess) 3)", "3"), ("((fun (say if) if) 3 4)", "4"),
    # let
    ("(let x 1 x)", "1"), ("(let x 1 (let x 2 x))", "2"), ("(let x 1 (let y 2 (minus x y)))", "-1"),
    ("(let x x x)", "!unknown"), ("(let plus minus (plus 5 3))", "2"), ("(let x 1 (let x (plus x 1) x))", "2"),
    ("(let if 3 if)", "3"), ("(let x (let x 1 x) x)", "1"), ("(join (let x 1 x) (let x 2 x))", "!sort"),
    ("(plus (let x 1 x) x)", "!unknown"),
    # hold
    ("(hold x 4)", "4"), ("(plus (hold x 4) x)", "8"), ("(let x 1 (plus (hold x 4) x))", "5"),
    ("((hold f (fun (n) (if (less n 1) 0 (plus n (f (minus n 1)))))) 4)", "10"), ("(plus x (hold x 4))", "!unknown"),
    # up
    ("(up 1)", "1"), ("(up (up (plus 1 2)))", "3"), ("(let x 1 (up x))", "!unknown"), ("(let x 1 (plus (up 1) x))", "2"),
    # put
    ("(plus 1 2)", "3"), ("((say 1) 2)", "!sort"), ("(())", "!sort"), ("(5)", "!sort"), ("(yes 1)", "!sort"),
    ("(x)", "!unknown"), ("((if yes plus minus) 4 3)", "7"), ("(((fun () plus)) 4 3)", "7"), ("((say plus) 1 2)", "!sort"),
    ("((fun (x) x))", "!count"), ("((fun (x) x) 1 2)", "!count"), ("((fun () 1) 1)", "!count"),
)


class Plainly(unittest.TestCase):
    def test_each_kind(self):
        for line, expected in PLAIN:
            with self.subTest(line=line):
                self.assertEqual(expected, answer(line))

    def test_each_kind_a_level_up(self):
        for line, expected in PLAIN:
            with self.subTest(line=line):
                self.assertEqual(expected, answer(f"(up {line})"))
                self.assertEqual(expected, answer(f"(up (up (up {line})))"))

    def test_told_up_as_on_the_ground(self):
        for line, expected in PLAIN:
            ground, up = Stair(), Stair()
            self.assertEqual(told(ground, line), told(up, f"(up (up {line}))"), line)
            self.assertEqual(ground.held(0), up.held(2))
            self.assertEqual([{}, {}], [up.held(0), up.held(1)])

    def test_names_room_then_held_then_built(self):
        stair = Stair()
        self.assertEqual("<.plus>", stair.tell("plus"))
        stair.tell("(hold plus 5)")
        self.assertEqual("5", stair.tell("plus"))
        self.assertEqual("6", stair.tell("(let plus 6 plus)"))
        self.assertEqual("<.plus>", stair.tell("(up plus)"))
        self.assertEqual("no", stair.tell("(let plus no plus)"))
        stair.tell("(hold plus no)")
        self.assertEqual("no", stair.tell("plus"))

    def test_first_pair_of_a_room(self):
        self.assertEqual("1", answer("(here (say x) (say ((y 0) (x 1) (x 2))))"))
        self.assertEqual("1", answer("((fun (x y) (here (say x) (say ((x 1))))) 5 6)"))

    def test_words_of_a_function_in_order(self):
        # The room of a function, as its reader is handed it: the first word's pair first.
        room = answer("(up (change (say fixed) (fun (t r) r)))",
                      "((let c (say q) (fun (a b) 0)) (say x) (say y))")
        self.assertEqual("((a x) (b y) (c q))", room)

    def test_held_words_are_those_of_a_level(self):
        stair = Stair()
        stair.tell("(hold x 1)")
        stair.tell("(up (hold x 2))")
        stair.tell("(up (up (hold x 3)))")
        self.assertEqual(["1", "2", "3"], [stair.tell(line) for line in ("x", "(up x)", "(up (up x))")])
        self.assertEqual("!unknown", told(stair, "(up (up (up x)))"))
        self.assertEqual([{"x": "1"}, {"x": "2"}, {"x": "3"}, {}], [stair.held(level) for level in range(4)])

    def test_functions_are_read_at_the_level_where_they_are_given(self):
        stair = Stair()
        stair.tell("(hold x 1)")
        stair.tell("(up (hold x 2))")
        stair.tell("(up (keep (say f) (fun () x)))")
        self.assertEqual("1", stair.tell("(f)"))
        self.assertEqual("2", stair.tell("(up ((look (say f) ())))"))

    def test_up_reads_in_the_empty_room(self):
        self.assertEqual("()", answer("(up (up (change (say fixed) (fun (t r) r))))", "(let x (say y) (up 0))"))
        self.assertEqual("((x y))", answer("(up (change (say fixed) (fun (t r) r)))", "(let x (say y) 0)"))

    def test_parts_are_read_from_the_first_on(self):
        self.assertEqual("(1 2)", answer("(hold x 0)", "(join (hold x 1) (join (hold x (plus x 1)) ()))"))
        self.assertEqual("!a", answer("((fault (say a)) (fault (say b)))"))
        self.assertEqual("!b", answer("(plus (fault (say b)) (fault (say c)))"))
        self.assertEqual("!unknown", answer("(5 x)"))

    def test_only_one_branch_is_read(self):
        stair = Stair()
        self.assertEqual("1", stair.tell("(if yes 1 (hold x 1))"))
        self.assertEqual("1", stair.tell("(if no (hold x 1) 1)"))
        self.assertEqual({}, stair.held())


class Shapes(unittest.TestCase):
    def test_wrong_shapes(self):
        for line in MISSHAPEN:
            with self.subTest(line=line):
                self.assertEqual("!shape", answer(line))
                self.assertEqual("!shape", answer(f"(up {line})"))

    def test_ahead_of_all_in_it(self):
        # Nothing within is read: what would be held is not.
        for line in MISSHAPEN:
            stair = Stair()
            self.assertEqual("shape", told(stair, f"(heed {line} {HEEDED})"), line)
            self.assertEqual([{}, {}], [stair.held(0), stair.held(1)], line)

    def test_no_height_is_wanted(self):
        stair = Stair(height=0)
        self.assertEqual("!shape", told(stair, "(up)"))
        self.assertEqual("shape", told(stair, f"(heed (up 1 2) {HEEDED})"))


class Faults(unittest.TestCase):
    def test_each_fault_word_is_heeded(self):
        for line, word in (
            ("x", "unknown"), ("(if 1 1 1)", "choice"), ("(say)", "shape"), ("(plus 1)", "count"),
            ("(1)", "sort"), ("(plus 1 no)", "sort"), ("(plus 1 " + "9" * 40 + ")", "great"), ("(read 1 ())", "ground"),
            ("(here 1 1)", "room"), ("(fault (say my))", "my"), ("(fault (say sort))", "sort"),
        ):
            with self.subTest(line=line):
                self.assertEqual("!" + word, answer(line))
                self.assertEqual(word, answer(f"(heed {line} {HEEDED})"))
                self.assertEqual(f"({word} 1)", answer(f"(let x 1 (heed (let y 2 {line.replace('x', 'zz')})"
                                                       " (fun (w) (join w (join x ())))))"))

    def test_heed_without_a_fault(self):
        self.assertEqual("3", answer("(heed (plus 1 2) (fault (say never)))"))
        self.assertEqual("3", answer("(heed (plus 1 2) x)"))

    def test_nearest_heed(self):
        self.assertEqual("(in a)", answer(
            "(heed (heed (fault (say a)) (fun (w) (join (say in) (join w ())))) (fun (w) (say out)))"))
        self.assertEqual("(out b)", answer(
            "(heed (heed (fault (say a)) (fun (w) (fault (say b)))) (fun (w) (join (say out) (join w ()))))"))
        # The heed of which f is being read heeds no more.
        self.assertEqual("(out c)", answer(
            "(heed (heed (fault (say a)) (fault (say c))) (fun (w) (join (say out) (join w ()))))"))
        self.assertEqual("!c", answer("(heed (fault (say a)) (fault (say c)))"))
        # A heed that was left heeds no more.
        self.assertEqual("!c", answer("(plus (heed 1 (fun (w) 2)) (fault (say c)))"))
        self.assertEqual("!c", answer("((heed (fun () (fault (say c))) (fun (w) 2)))"))

    def test_what_heeds_must_be_given_a_word(self):
        self.assertEqual("!sort", answer("(heed x 5)"))
        self.assertEqual("!count", answer("(heed x (fun () 5))"))
        self.assertEqual("!unknown", answer("(heed x fault)"))
        self.assertEqual("!unknown", answer("(heed (say) y)"))
        self.assertEqual("5", answer("(let y (fun (w) 5) (heed x y))"))
        self.assertEqual("!count", answer("(heed x plus)"))

    def test_across_levels(self):
        self.assertEqual("a", answer(f"(heed (up (fault (say a))) {HEEDED})"))
        self.assertEqual("a", answer(f"(heed (up (up (fault (say a)))) {HEEDED})"))
        self.assertEqual("a", answer(f"(up (heed (read (say (fault (say a))) ()) {HEEDED}))"))
        self.assertEqual("(one a)", answer(
            "(heed (up (heed (read (say (fault (say a))) ()) (fun (w) (join (say one) (join w ())))))"
            " (fun (w) (say nought)))"))
        # f is read and given at the level of the heed.
        self.assertEqual("((0 heeded))", answer(
            "(hold lvl 0)", "(up (hold lvl 1))",
            "(heed (up (fault (say heeded))) (fun (w) (join (join lvl (join w ())) ())))"))

    def test_faults_of_readers(self):
        lines = ("(up (change (say say) (fun (t r) (fault (say odd)))))",)
        self.assertEqual("!odd", answer(*lines, "(say 1)"))
        self.assertEqual("odd", answer(*lines, f"(heed (say 1) {HEEDED})"))

    def test_what_was_held_ahead_stays(self):
        stair = Stair()
        stair.tell("(heed (plus (hold x 1) (up (plus (hold y 2) (fault (say a))))) (fun (w) (hold z w)))")
        self.assertEqual([{"x": "1", "z": "a"}, {"y": "2"}], [stair.held(0), stair.held(1)])

    def test_what_was_changed_ahead_stays(self):
        stair = Stair()
        stair.tell("(heed (up (let x (change (say say) (fun (t r) 7)) (fault (say a)))) (fun (w) w))")
        self.assertEqual(["say"], stair.readers(1))
        self.assertEqual("7", stair.tell("(say 1)"))

    def test_of_a_refused_line_nothing_stays(self):
        stair = Stair()
        stair.tell("(hold x 0)")
        self.assertEqual("!a", told(
            stair, "(plus (hold x 1) (up (plus (hold y 2) (let c (change (say if) plus) (fault (say a))))))"))
        self.assertEqual([{"x": "0"}, {}, []], [stair.held(0), stair.held(1), stair.readers(1)])
        self.assertEqual("!b", told(stair, "(heed (fault (say a)) (fun (w) (plus (hold x 1) (fault (say b)))))"))
        self.assertEqual({"x": "0"}, stair.held(0))

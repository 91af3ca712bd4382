"""Points 2, 3, 12, 13 and 14: stairs and what they are asked."""

import unittest

from mirrorstair.errors import BadText, Fault, NoBack, StairError, TooHigh, TooLong
from mirrorstair.stair import MOST, Stair
from tests.helpers import LOOP, MANY, all_state, line_of_steps, state, steps_of, told

NO_NUMBERS = (True, False, None, "1", 1.0, (), [], [1], {}, -1, -200)


class Steps(unittest.TestCase):
    """Point 12: what a step is, and how many are let in."""

    def test_most(self):
        self.assertEqual(4000, MOST)

    def test_what_counts(self):
        for line, many in (
            ("1", 1), ("plus", 1), ("(say x)", 1), ("(fun (x) x)", 1), ("(if yes 1 2)", 3), ("(let x 1 x)", 3),
            ("(hold x 1)", 2), ("(heed 1 2)", 2), ("(heed x (fun (w) w))", 5), ("(up 1)", 2), ("(plus 1 2)", 5),
            ("((fun () 1))", 4), ("((fun (x) x) 1)", 5), ("(here 1 ())", 6),
            ("(up (read 1 ()))", 7), ("(up (plain 1 ()))", 6), ("(up (reads (say (1 2 3)) ()))", 9),
            ("(up (reads () ()))", 6), ("(up (give plus (say (1 2))))", 7), ("(up (hand plus (say (1 2))))", 6),
            ("(up (hand (fun () 1) ()))", 7), ("(up (give (fun () 1) ()))", 8), ("(up (look (say plus) ()))", 6),
            ("(up (made (say (fun () 1)) ()))", 6), ("(up (plain (say (plus 1 2)) ()))", 10), ("(up (keep (say x) 1))", 6),
            ("(up (plain (say (if yes 1 2)) ()))", 8),
        ):
            self.assertEqual(many, steps_of(line), line)

    def test_steps_of_readers(self):
        # A thing read by a reader is a step, the reader given it another one, what that does more.
        self.assertEqual(3, steps_of("1", "(up (change (say fixed) (fun (t r) t)))"))
        self.assertEqual(2, steps_of("1", "(up (change (say fixed) join))"))
        self.assertEqual(2, steps_of("plus", "(up (change (say name) look))"))
        self.assertEqual(3, steps_of("((fun () 1))", "(up (change (say put) (fun (t r) r)))"))
        self.assertEqual(5, steps_of("((fun () 1))", "(up (change (say give) hand))"))
        self.assertEqual(4, steps_of("1", "(up (change (say fixed) (fun (t r) t)))", "(up (up (change (say give) hand)))"))

    def test_just_as_many_and_one_more(self):
        for line in ("1", "(plus 1 2)", "(heed x (fun (w) w))", "(up (reads (say (1 2 3)) ()))", "((fun () 1))"):
            many = steps_of(line)
            for most in range(many + 3):
                stair = Stair()
                if most < many:
                    with self.assertRaises(TooLong) as caught:
                        stair.tell(line, most=most)
                    self.assertEqual(most, caught.exception.steps)
                    self.assertEqual(0, stair.steps)
                else:
                    stair.tell(line, most=most)
                    self.assertEqual(many, stair.steps)

    def test_most_left_out(self):
        for ask in ("tell", "trace", "needed"):
            stair = Stair()
            stair.tell(LOOP)
            getattr(stair, ask)(line_of_steps(4000))
            with self.assertRaises(TooLong) as caught:
                getattr(stair, ask)(line_of_steps(4001))
            self.assertEqual(4000, caught.exception.steps)
            getattr(stair, ask)(line_of_steps(4001), most=4001)

    def test_no_fault_of_a_step_that_is_not_done(self):
        for line, many in (("x", 1), ("(plus x 1)", 3), ("(say)", 1), ("(1)", 3), ("(plus 1 no)", 5), ("(up)", 1)):
            self.assertTrue(told(Stair(), line, most=many).startswith("!"))
            self.assertNotIn("long", told(Stair(), line, most=many))
            self.assertEqual(f"!long {many - 1}", told(Stair(), line, most=many - 1))

    def test_goes_through_each_heed(self):
        self.assertEqual("!long 100", told(Stair(), "(heed (let g (fun (g) (g g)) (g g)) (fun (w) w))", most=100))
        self.assertEqual("!high 0 (up 1)", told(Stair(height=0), "(heed (up 1) (fun (w) w))"))
        self.assertEqual("!high 1 (up 1)", told(Stair(height=1), "(heed (up (heed (up 1) (fun (w) w))) (fun (w) w))"))

    def test_thousands_deep(self):
        stair = Stair()
        stair.tell(LOOP)
        self.assertEqual("11000", stair.tell("(loop 11000)", most=MANY))
        self.assertEqual(f"!long {MANY}", told(stair, "(let g (fun (g) (plus 1 (g g))) (g g))", most=MANY))
        self.assertEqual(f"!long {MANY}", told(stair, "(let g (fun (g) (let x (g g) (hold y x))) (g g))", most=MANY))
        self.assertEqual("deep", stair.tell(
            "(heed (let g (fun (g n) (if (less n 1) (fault (say deep)) (plus 1 (g g (minus n 1))))) (g g 5000)) (fun (w) w))",
            most=MANY))
        self.assertEqual("9", stair.tell(
            "(let g (fun (g n) (if (less n 1) x (heed (g g (minus n 1)) (fun (w) (fault w))))) (heed (g g 2000) (fun (w) 9)))",
            most=MANY))
        # From level to level, each waiting for the one within.
        stair.tell("(hold c 2000)")
        stair.tell("(hold deep (fun () (if (less c 1) 0 (let z (hold c (minus c 1)) (plus 1 (up (read (say (deep)) ())))))))")
        self.assertEqual("2000", stair.tell("(deep)", most=MANY))

    def test_deep_texts(self):
        deep = "(if yes " * 57 + "1" + " 2)" * 57
        self.assertEqual("1", Stair().tell(deep))
        long = "(" + " ".join(["plus"] + ["(plus 1 1)"] * 350) + ")"
        self.assertEqual("!count", told(Stair(), long))


class Heights(unittest.TestCase):
    """Points 4 and 12: TooHigh."""

    def refused(self, stair, line, level, text):
        for ask in (stair.tell, stair.trace):
            ahead = state(stair)
            with self.assertRaises(TooHigh) as caught:
                ask(line)
            self.assertEqual((level, text), (caught.exception.level, caught.exception.text))
            self.assertEqual(ahead, state(stair))

    def test_too_high(self):
        self.refused(Stair(height=0), "(up 1)", 0, "(up 1)")
        self.refused(Stair(height=0), "(plus (hold x 1) (up (up (say y))))", 0, "(up (up (say y)))")
        self.refused(Stair(height=1), "(up (up (say y)))", 1, "(up (say y))")
        self.refused(Stair(height=2), "(let q 5 (up (up (plus 1 (up q)))))", 2, "(up q)")
        self.refused(Stair(height=1), "(up (here (say (up 5)) ()))", 1, "(up 5)")
        self.refused(Stair(height=1), "(up (keep (say x) (up (say))))", 1, "(up (say))")

    def test_enough(self):
        line = "1"
        for height in range(13):
            self.assertEqual("1", Stair(height=height).tell(line))
            self.assertEqual("1", Stair().tell(line))
            line = f"(up {line})"
            self.assertEqual(f"!high {height} (up 1)", told(Stair(height=height), line))

    def test_readers_above_reach_no_higher(self):
        stair = Stair(height=1)
        stair.tell("(up (change (say up) (fun (t r) (join (say seen) t))))")
        self.assertEqual("(seen up (up x))", stair.tell("(up (up x))"))
        # Plainly from above, at the level below the height.
        self.assertEqual("5", stair.tell("(let z 1 5)"))

    def test_the_up_is_itself_a_step(self):
        self.assertEqual("!long 0", told(Stair(height=0), "(up 1)", most=0))
        self.assertEqual("!high 0 (up 1)", told(Stair(height=0), "(up 1)", most=1))
        self.assertEqual("!long 1", told(Stair(height=1), "(up (up 1))", most=1))
        self.assertEqual("!high 1 (up 1)", told(Stair(height=1), "(up (up 1))", most=2))

    def test_field(self):
        self.assertIsNone(Stair().height)
        self.assertEqual([0, 3, 12], [Stair(height=height).height for height in (0, 3, 12)])
        self.assertEqual(3, Stair(height=3).copy().height)

    def test_plain_up_from_above(self):
        self.assertEqual("5", Stair(height=1).tell("(up (plain (say (up 5)) ()))"))
        self.assertEqual("5", Stair(height=1).tell("(up (read (say (up 5)) ()))"))


class Telling(unittest.TestCase):
    """Points 2, 12 and 13: what lines leave, answered and refused."""

    def test_bad_texts(self):
        stair = Stair()
        for line, at in (("", 0), ("(", 1), ("(plus 1  2)", 8), ("1 2", 1), (5, 0), (None, 0), (("plus", 1), 0)):
            for ask in (stair.tell, stair.trace, stair.needed):
                with self.assertRaises(BadText) as caught:
                    ask(line)
                self.assertEqual(at, caught.exception.at)
        # Ahead of all else.
        with self.assertRaises(BadText):
            stair.tell("(", most=0)
        self.assertEqual([state(Stair())], all_state(stair))

    def test_fault_fields(self):
        for ask in (Stair().tell, Stair().trace, Stair().needed):
            with self.assertRaises(Fault) as caught:
                ask("(fault (say abc))")
            self.assertEqual("abc", caught.exception.word)

    def test_at_first(self):
        stair = Stair()
        self.assertEqual((0, 0, None), (stair.steps, stair.reached, stair.height))
        self.assertEqual(({}, {}, [], []), (stair.held(), stair.held(5), stair.readers(), stair.readers(7)))

    def test_steps_and_reached(self):
        stair = Stair()
        for line, steps, reached in (
            ("1", 1, 0), ("(plus 1 2)", 6, 0), ("x", 6, 0), ("(up 1)", 8, 1), ("(up (up (say)))", 8, 1),
            ("(up (up (up 2)))", 12, 3), ("(up 1)", 14, 3), ("(heed (up (up (up (up x)))) (fun (w) 1))", 23, 4),
        ):
            told(stair, line)
            self.assertEqual((steps, reached), (stair.steps, stair.reached), line)

    def test_reached_by_readers(self):
        stair = Stair(height=1)
        stair.write(1, "fixed")
        self.assertEqual(0, stair.reached)
        stair.tell("(say x)")
        self.assertEqual(0, stair.reached)
        stair.tell("1")
        self.assertEqual(1, stair.reached)

    def test_refused_lines_change_nothing(self):
        stair = Stair(height=2)
        for line in ("(hold x 1)", "(up (hold y 2))", "(up (change (say heed) plain))"):
            stair.tell(line)
        ahead = all_state(stair)
        for line in (
            "(plus (hold x 5) (fault (say a)))", "(let q (hold z 1) (up (let q (hold z 2) (up (up 1)))))", "(", "(say)",
            "(let q (up (change (say if) plus)) (let g (fun (g) (g g)) (g g)))", "(up (let q (change (say heed) no) x))",
        ):
            with self.assertRaises(StairError):
                stair.tell(line)
            self.assertEqual(ahead, all_state(stair), line)

    def test_the_same_again(self):
        one, other = Stair(), Stair()
        for line in (LOOP, "(loop 20)", "(up (hold x loop))", "(up (hold x 1))"):
            self.assertEqual(told(one, line), told(other, line))
            self.assertEqual(one.trace("(plus 1 2)"), one.trace("(plus 1 2)"))
        self.assertEqual(all_state(one), all_state(other))

    def test_held_is_sorted(self):
        stair = Stair()
        for word in ("c", "a", "b", "ab", "zz", "aa"):
            stair.tell(f"(hold {word} (say ({word})))")
        self.assertEqual(["a", "aa", "ab", "b", "c", "zz"], list(stair.held()))
        self.assertEqual({"a": "(a)", "aa": "(aa)", "ab": "(ab)", "b": "(b)", "c": "(c)", "zz": "(zz)"}, stair.held(0))
        stair.tell("(hold a (fun (x y) 1))")
        stair.tell("(hold b plus)")
        self.assertEqual(("<x y>", "<.plus>"), (stair.held()["a"], stair.held()["b"]))

    def test_readers_are_sorted(self):
        stair = Stair()
        for kind in ("put", "give", "let", "fixed", "if", "name"):
            stair.write(1, kind)
        self.assertEqual(["fixed", "give", "if", "let", "name", "put"], stair.readers(1))
        self.assertEqual(([], []), (stair.readers(0), stair.readers(2)))

    def test_what_is_told_is_the_askers_own(self):
        stair = Stair()
        stair.tell("(hold x 1)")
        stair.write(1, "say")
        ahead = all_state(stair)
        stair.held()["x"] = "9"
        stair.held()["y"] = "9"
        stair.held(7)["y"] = "9"
        stair.readers().append("if")
        stair.readers(7).append("if")
        stair.trace("1").append(5)
        self.assertEqual(ahead, all_state(stair))
        held, readers, rows = stair.held(), stair.readers(), stair.trace("x")
        stair.tell("(hold x 2)")
        stair.write(1, "if")
        self.assertEqual(({"x": "1"}, ["say"], 1), (held, readers, len(rows)))
        self.assertIsInstance(rows, list)
        self.assertIsInstance(rows[0], tuple)

    def test_arguments(self):
        stair = Stair(height=2)
        self.assertEqual("1", stair.tell(text="1", most=5))
        self.assertEqual({}, stair.held(level=1))
        self.assertEqual([], stair.readers(level=1))
        stair.write(level=1, kind="if")
        stair.write(kind="up", level=2)
        self.assertEqual([(0, "fixed", "plain", "1")], stair.trace(text="1", most=1))
        self.assertEqual(0, stair.needed(text="1", most=1))
        stair.back(many=1)
        for ask in (
            lambda: Stair(2), lambda: stair.tell("1", 5), lambda: stair.trace("1", 5), lambda: stair.needed("1", 5),
            lambda: stair.back(1),
        ):
            with self.assertRaises(TypeError):
                ask()


class Back(unittest.TestCase):
    """Point 13: lines taken back, and copies."""

    LINES = (
        "(hold x 1)", "(up (hold y 2))", "(up (change (say fixed) (fun (t r) t)))", "(hold x (say again))",
        "(up (up (up (hold z 3))))", "(up (change (say fixed) no))",
    )

    def told_first(self, many):
        stair = Stair()
        for line in self.LINES[:many]:
            stair.tell(line)
        return stair

    def test_none_one_several_all(self):
        for many in range(len(self.LINES) + 1):
            stair = self.told_first(len(self.LINES))
            self.assertIsNone(stair.back(many=many))
            self.assertEqual(all_state(self.told_first(len(self.LINES) - many)), all_state(stair))

    def test_left_out_is_one(self):
        stair = self.told_first(4)
        self.assertIsNone(stair.back())
        self.assertEqual(all_state(self.told_first(3)), all_state(stair))

    def test_refused(self):
        for many in range(len(self.LINES) + 1):
            stair = self.told_first(many)
            ahead = all_state(stair)
            for wrong in (many + 1, many + 100) + NO_NUMBERS:
                with self.assertRaises(NoBack):
                    stair.back(many=wrong)
                self.assertEqual(ahead, all_state(stair))
        with self.assertRaises(NoBack):
            Stair().back()
        Stair().back(many=0)

    def test_refused_lines_are_no_lines(self):
        stair = Stair()
        stair.tell("(hold x 1)")
        told(stair, "(plus (hold x 2) y)")
        told(stair, "(hold x 2)", most=1)
        stair.trace("(hold x 3)")
        stair.needed("(hold x 3)")
        stair.back()
        self.assertEqual(state(Stair()), state(stair))
        with self.assertRaises(NoBack):
            stair.back()

    def test_lines_behind_back(self):
        stair = self.told_first(5)
        stair.back(many=3)
        for line in self.LINES[2:]:
            stair.tell(line)
        self.assertEqual(all_state(self.told_first(len(self.LINES))), all_state(stair))

    def test_many_lines(self):
        stair = Stair()
        for at in range(200):
            stair.tell(f"(hold x {at})")
        stair.back(many=150)
        self.assertEqual({"x": "49"}, stair.held())
        stair.back(many=50)
        self.assertEqual(state(Stair()), state(stair))

    def test_copies_go_their_own_way(self):
        first = self.told_first(3)
        ahead = all_state(first)
        other = first.copy()
        self.assertIsInstance(other, Stair)
        self.assertEqual(ahead, all_state(other))
        other.tell("(hold x 9)")
        other.tell("(up (change (say if) plus))")
        other.write(2, "let")
        self.assertEqual(ahead, all_state(first))
        there = all_state(other)
        first.back(many=2)
        first.tell("(hold q 9)")
        self.assertEqual(there, all_state(other))
        other.back(many=6)
        self.assertEqual(state(Stair()), state(other))
        self.assertEqual({"q": "9", "x": "1"}, first.held())

    def test_copies_of_copies(self):
        first = self.told_first(2)
        second = first.copy()
        third = second.copy()
        second.back(many=2)
        third.tell(self.LINES[2])
        self.assertEqual(all_state(self.told_first(3)), all_state(third))
        self.assertEqual(all_state(self.told_first(2)), all_state(first))
        self.assertEqual(all_state(self.told_first(0)), all_state(second))

    def test_copy_keeps_the_height(self):
        self.assertEqual("!high 1 (up 1)", told(Stair(height=1).copy(), "(up (up 1))"))


class Traces(unittest.TestCase):
    """Point 14: trace and needed."""

    def test_plain(self):
        self.assertEqual([
            (0, "put", "plain", "(plus (up x) 2)"), (0, "name", "plain", "plus"), (0, "up", "plain", "(up x)"),
            (1, "name", "plain", "x"), (0, "fixed", "plain", "2"), (0, "give", "plain", "(<.plus> 1 2)"),
        ], self.behind("(up (hold x 1))").trace("(plus (up x) 2)"))

    def behind(self, *lines):
        stair = Stair()
        for line in lines:
            stair.tell(line)
        return stair

    def test_each_kind(self):
        for line, kind in (
            ("plus", "name"), ("(say (a b))", "say"), ("(if yes 1 2)", "if"), ("(fun (x) x)", "fun"), ("(let x 1 x)", "let"),
            ("(hold x yes)", "hold"), ("(heed 1 2)", "heed"), ("(up ())", "up"), ("((fun () 1))", "put"), ("()", "fixed"),
        ):
            self.assertEqual((0, kind, "plain", line), Stair().trace(line)[0])

    def test_by_a_table(self):
        stair = self.behind("(up (change (say fixed) (fun (t r) t)))")
        self.assertEqual([
            (0, "fixed", "table", "1"), (1, "give", "plain", "(<t r> 1 ())"), (1, "name", "plain", "t"),
        ], stair.trace("1"))
        stair = self.behind("(up (change (say give) hand))")
        self.assertEqual([
            (0, "put", "plain", "((fun () (say y)))"), (0, "fun", "plain", "(fun () (say y))"), (0, "give", "table", "(<>)"),
            (1, "give", "plain", "(<.hand> <> ())"), (0, "say", "plain", "(say y)"),
        ], stair.trace("((fun () (say y)))"))

    def test_heeded(self):
        self.assertEqual([
            (0, "heed", "plain", "(heed (up x) (fun (w) 1))"), (0, "up", "plain", "(up x)"), (1, "name", "plain", "x"),
            (0, "fun", "plain", "(fun (w) 1)"), (0, "give", "plain", "(<w> unknown)"), (0, "fixed", "plain", "1"),
        ], Stair().trace("(heed (up x) (fun (w) 1))"))

    def test_as_many_as_steps(self):
        for line in ("(up (plain (say (plus 1 2)) ()))", "(up (reads (say (1 2)) ()))", "(heed x (fun (w) w))"):
            self.assertEqual(steps_of(line), len(Stair().trace(line)))

    def test_they_change_nothing(self):
        stair = self.behind("(hold x 1)", "(up (hold x 2))")
        ahead = all_state(stair)
        line = "(let a (hold x 5) (let b (up (change (say if) plus)) (up (up (hold y 1)))))"
        self.assertEqual(line, stair.trace(line)[0][3])
        self.assertEqual(2, stair.needed(line))
        self.assertEqual(ahead, all_state(stair))

    def test_refused_as_tell(self):
        for ask in (Stair().trace, Stair().needed):
            with self.assertRaises(Fault) as caught:
                ask("(plus 1 no)")
            self.assertEqual("sort", caught.exception.word)
            with self.assertRaises(TooLong) as caught:
                ask("(plus 1 2)", most=4)
            self.assertEqual(4, caught.exception.steps)
        with self.assertRaises(TooHigh):
            Stair(height=0).trace("(up 1)")

    def test_needed(self):
        for line, level in (
            ("1", 0), ("(up 1)", 1), ("(plus (up (up 1)) (up 2))", 2), ("(if yes 1 (up 1))", 0),
            ("(heed (up (up (up x))) (fun (w) w))", 3), ("(up (read (say (up 1)) ()))", 1), ("(say (up 1))", 0),
        ):
            for height in (None, 0, 1, 2, 3):
                stair = Stair(height=height)
                self.assertEqual(level, stair.needed(line))
                if height is not None and height < level:
                    with self.assertRaises(TooHigh):
                        stair.tell(line)
                else:
                    stair.tell(line)
                    self.assertEqual(level, stair.reached)

    def test_needed_of_this_line_alone(self):
        stair = self.behind("(up (up (up 1)))")
        self.assertEqual((3, 0), (stair.reached, stair.needed("1")))

    def test_needed_by_readers(self):
        stair = self.behind("(up (change (say fixed) (fun (t r) t)))")
        self.assertEqual([1, 0], [stair.needed("1"), stair.needed("(say 1)")])
        stair.tell("(up (up (change (say name) look)))")
        self.assertEqual([2, 0], [stair.needed("1"), stair.needed("(say 1)")])

"""Points 20, 21 and 22: lines walked step by step."""

import unittest

from mirrorstair.data import data_text, read_data
from mirrorstair.errors import BadText, Fault, NoBack, NotDone, TooHigh
from mirrorstair.quick import Quick
from mirrorstair.stair import Stair
from mirrorstair.walk import Walk
from tests.helpers import LOOP, MANY, READERS, all_state, state, told
from tests.programs import Maker
from tests.reference import DeepCalls, Reference

NO_NUMBERS = (True, False, None, "1", 1.0, (), [], [1], {}, -1, -200)
LEVELS = 5


def behind(*lines, height=None):
    stair = Stair(height=height)
    for line in lines:
        stair.tell(line)
    return stair


def walk_on(walk):
    """The steps of a walk up to its end."""
    rows = []
    while not walk.over():
        rows.append(walk.step())
    return rows


def outcome(ask):
    """What is told, or the refusal with its fields."""
    try:
        return ask()
    except (BadText, Fault, NotDone, TooHigh, NoBack) as refusal:
        return type(refusal).__name__, sorted(vars(refusal).items())


def settled_state(walk):
    try:
        return all_state(walk.settled())
    except (Fault, NotDone) as refusal:
        return type(refusal).__name__, sorted(vars(refusal).items())


def look(walk):
    """All that can be asked of a walk where it stands."""
    return (
        walk.steps, walk.over(), outcome(walk.answer), settled_state(walk), walk.waiting(),
        [walk.held(level) for level in range(LEVELS)], [walk.readers(level) for level in range(LEVELS)],
    )


def whole(walk):
    """All that can be asked of a walk, there and at each step behind and ahead of it."""
    walk = walk.copy()
    looks = [look(walk)]
    for at in range(walk.steps):
        walk.back()
        looks.append(look(walk))
    rows = []
    while not walk.over():
        row = outcome(walk.step)
        rows.append((row, look(walk)))
        if row[0] == "TooHigh":
            break
    return looks, rows


class AgainstTheRules(DeepCalls):
    """Each step of lines made by chance, against the rules read off the document by recursion."""

    def standing(self, walk, mark):
        waits, held, tables = mark
        self.assertEqual(waits, walk.waiting())
        for level in range(LEVELS):
            words = {word: data_text(held[at, word]) for at, word in held if at == level}
            self.assertEqual(words, walk.held(level))
            self.assertEqual(sorted([kind for at, kind in tables if at == level]), walk.readers(level))

    def compare(self, stair, reference, line):
        walk = Walk(stair, line)
        ahead = all_state(stair)
        expected = reference.tell(read_data(line))
        for at, row in enumerate(reference.rows):
            self.assertFalse(walk.over())
            self.assertEqual(at, walk.steps)
            self.assertEqual(("NotDone", []), outcome(walk.answer))
            self.standing(walk, reference.marks[at])
            if expected.startswith("!high") and at + 1 == len(reference.rows):
                for again in range(2):
                    with self.assertRaises(TooHigh) as caught:
                        walk.step()
                    self.assertEqual(expected, f"!high {caught.exception.level} {caught.exception.text}")
                    self.standing(walk, reference.marks[at])
                self.assertEqual(at, walk.steps)
                return expected
            self.assertEqual(row, walk.step())
        if expected.startswith("!long"):
            self.assertFalse(walk.over())
            return expected
        self.standing(walk, reference.marks[-1])
        self.assertEqual(ahead, all_state(stair))
        self.ended(walk, stair, line, expected)
        return expected

    def ended(self, walk, stair, line, expected):
        self.assertIs(True, walk.over())
        self.assertIsNone(walk.step())
        self.assertEqual([], walk.waiting())
        if expected.startswith("!"):
            self.assertEqual(("Fault", [("word", expected[1:])]), outcome(walk.answer))
            self.assertEqual(("Fault", [("word", expected[1:])]), settled_state(walk))
            return
        self.assertEqual(expected, walk.answer())
        other = stair.copy()
        self.assertEqual(expected, other.tell(line, most=MANY))
        self.assertEqual(all_state(other), all_state(walk.settled()))

    def rows(self, seed, height, kind):
        maker = Maker(seed, 3)
        stair = kind(height=height)
        reference = Reference(height, 600)
        for at in range(6):
            line = maker.line()
            with self.subTest(seed=seed, height=height, line=line):
                expected = self.compare(stair, reference, line)
                self.assertEqual(expected, told(stair, line, most=600))

    def test_endless(self):
        for seed in range(80):
            self.rows(seed, None, Stair)

    def test_heights(self):
        for seed in range(80):
            self.rows(1000 + seed, seed % 4, Stair)

    def test_quick(self):
        for seed in range(60):
            self.rows(2000 + seed, None if seed % 2 else seed % 4, Quick)


class Steps(unittest.TestCase):
    def test_one_by_one(self):
        stair = behind("(hold x 1)")
        walk = Walk(stair, "(plus x 2)")
        self.assertEqual(0, walk.steps)
        self.assertIs(False, walk.over())
        rows = [walk.step() for at in range(5)]
        self.assertEqual([
            (0, "put", "plain", "(plus x 2)"), (0, "name", "plain", "plus"), (0, "name", "plain", "x"),
            (0, "fixed", "plain", "2"), (0, "give", "plain", "(<.plus> 1 2)"),
        ], rows)
        self.assertIsInstance(rows[0], tuple)
        self.assertIs(True, walk.over())
        self.assertEqual("3", walk.answer())
        self.assertEqual([None, None], [walk.step(), walk.step()])
        self.assertEqual(5, walk.steps)

    def test_refused_texts(self):
        for text, at in (("", 0), ("(plus 1", 7), ("(plus 1  2)", 8), (5, 0), (None, 0), (("plus",), 0)):
            with self.assertRaises(BadText) as caught:
                Walk(Stair(), text)
            self.assertEqual(at, caught.exception.at)

    def test_by_a_table(self):
        stair = behind("(up (change (say fixed) (fun (t r) t)))")
        self.assertEqual([
            (0, "fixed", "table", "1"), (1, "give", "plain", "(<t r> 1 ())"), (1, "name", "plain", "t"),
        ], walk_on(Walk(stair, "1")))

    def test_ended_by_a_fault(self):
        walk = Walk(Stair(), "(plus (hold x 5) (up (change (say if) y)))")
        for at in range(9):
            self.assertEqual(("NotDone", []), outcome(walk.answer))
            self.assertEqual(("NotDone", []), outcome(walk.settled))
            self.assertFalse(walk.over())
            self.assertIsNotNone(walk.step())
        self.assertTrue(walk.over())
        self.assertEqual(("Fault", [("word", "unknown")]), outcome(walk.answer))
        self.assertEqual(("Fault", [("word", "unknown")]), outcome(walk.settled))
        self.assertIsNone(walk.step())
        self.assertEqual(([], {"x": "5"}), (walk.waiting(), walk.held()))
        walk.back()
        self.assertEqual((False, 8), (walk.over(), walk.steps))
        self.assertEqual([(1, "put"), (0, "put")], walk.waiting())
        self.assertEqual((1, "name", "plain", "y"), walk.step())
        self.assertTrue(walk.over())

    def test_at_once_ended_by_a_fault(self):
        walk = Walk(Stair(), "x")
        self.assertEqual((0, "name", "plain", "x"), walk.step())
        self.assertTrue(walk.over())
        self.assertEqual(("Fault", [("word", "unknown")]), outcome(walk.answer))

    def test_readers_changed_on_the_way_stay_behind_a_fault(self):
        walk = Walk(Stair(), "(let q (up (let q (hold z 1) (change (say if) plain))) (fault (say bad)))")
        walk_on(walk)
        self.assertEqual((["if"], {"z": "1"}), (walk.readers(), walk.held(1)))
        self.assertEqual(("Fault", [("word", "bad")]), outcome(walk.answer))

    def test_too_high(self):
        walk = Walk(behind(height=1), "(plus (hold x 1) (up (up 5)))")
        rows = [walk.step() for at in range(5)]
        self.assertEqual((0, "up", "plain", "(up (up 5))"), rows[-1])
        ahead = whole(walk)
        for at in range(3):
            with self.assertRaises(TooHigh) as caught:
                walk.step()
            self.assertEqual((1, "(up 5)"), (caught.exception.level, caught.exception.text))
            self.assertEqual(ahead, whole(walk))
        self.assertEqual(("NotDone", []), outcome(walk.answer))
        self.assertEqual((False, 5, [(0, "put")], {"x": "1"}), (walk.over(), walk.steps, walk.waiting(), walk.held()))
        walk.back(many=2)
        self.assertEqual(rows[3:], [walk.step(), walk.step()])
        with self.assertRaises(TooHigh):
            walk.step()

    def test_too_high_goes_through_each_heed(self):
        walk = Walk(Stair(height=0), "(heed (up 1) (fun (w) w))")
        walk.step()
        for at in range(2):
            with self.assertRaises(TooHigh):
                walk.step()
        self.assertEqual([(0, "heed")], walk.waiting())

    def test_a_misshapen_up_is_a_fault(self):
        walk = Walk(Stair(height=0), "(heed (up) (fun (w) w))")
        walk_on(walk)
        self.assertEqual("shape", walk.answer())

    def test_thousands(self):
        stair = behind(LOOP)
        for line in ("(loop 600)", "(heed (plus 1 (loop 400)) 5)"):
            rows = stair.trace(line, most=MANY)
            walk = Walk(stair, line)
            self.assertEqual(rows, walk_on(walk))
            self.assertEqual(stair.copy().tell(line, most=MANY), walk.answer())
            other = stair.copy()
            other.tell(line, most=MANY)
            self.assertEqual(all_state(other), all_state(walk.settled()))
            self.assertGreater(walk.steps, 7000)
        with self.assertRaises(ValueError):
            stair.tell("(loop 600)")

    def test_without_an_end(self):
        walk = Walk(Stair(), "(let g (fun (g) (plus 1 (g g))) (g g))")
        for at in range(20000):
            walk.step()
        self.assertEqual((20000, False), (walk.steps, walk.over()))
        self.assertEqual({(0, "put")}, set(walk.waiting()))
        for at in range(5000):
            walk.back()
        self.assertEqual(15000, walk.steps)
        walk.back(many=15000)
        self.assertEqual(whole_start(walk), whole_start(Walk(Stair(), "(let g (fun (g) (plus 1 (g g))) (g g))")))

    def test_as_many_steps_as_may_be(self):
        stair = behind(LOOP)
        walk = Walk(stair, "(loop 11000)")
        while not walk.over():
            walk.step()
        self.assertEqual("11000", walk.answer())
        self.assertEqual(walk.steps, walk.settled().steps - stair.steps)
        walk.back(many=walk.steps // 2)
        self.assertFalse(walk.over())
        other = walk.copy()
        self.assertEqual(walk.step(), other.step())
        self.assertEqual(walk.waiting(), other.waiting())

    def test_a_long_list_of_things(self):
        stair = behind("(up (hold long (let g (fun (g n l) (if (less n 1) l (g g (minus n 1) (join n l)))) (g g 150 ()))))")
        walk = Walk(stair, "(up (reads long ()))")
        for at in range(55):
            walk.step()
        self.assertEqual([(0, "reads")], walk.waiting())
        self.assertEqual((0, "fixed", "plain", "50"), walk.step())
        walk_on(walk)
        walk.back(many=100)
        walk_on(walk)
        self.assertEqual("(" + " ".join([str(n) for n in range(1, 151)]) + ")", walk.answer())

    def test_arguments(self):
        walk = Walk(stair=Stair(), text="(hold x 1)")
        walk.step()
        walk.step()
        walk.back(many=0)
        self.assertEqual(({"x": "1"}, []), (walk.held(level=0), walk.readers(level=1)))
        with self.assertRaises(TypeError):
            walk.back(1)

    def test_told_lists_are_the_askers_own(self):
        walk = Walk(Stair(), "(plus (hold x 1) (up (change (say if) plain)))")
        for at in range(4):
            walk.step()
        ahead = whole(walk)
        walk.waiting().append(5)
        walk.held()["x"] = "9"
        walk.readers().append("let")
        walk.readers(4).append("let")
        self.assertEqual(ahead, whole(walk))
        waits, held, readers = walk.waiting(), walk.held(), walk.readers()
        walk_on(walk)
        self.assertEqual(([(0, "put")], {"x": "1"}, []), (waits, held, readers))


def whole_start(walk):
    return look(walk), walk.copy().step()


class Waiting(unittest.TestCase):
    """Point 21: what waits behind each step."""

    def waits(self, line, expected, *ahead):
        walk = Walk(behind(*ahead), line)
        self.assertEqual([], walk.waiting())
        for waits in expected:
            row = walk.step()
            self.assertEqual(waits, walk.waiting(), row)
        self.assertTrue(walk.over())

    def test_put(self):
        put = [(0, "put")]
        self.waits("(plus 1 2)", [put, put, put, [], []])
        self.waits("((fun () 1))", [put, [], [], []])
        self.waits("(plus (plus 1 2) 3)", [put, put, put * 2, put * 2, put * 2, put, put, [], []])

    def test_if(self):
        self.waits("(if yes 1 2)", [[(0, "if")], [], []])
        self.waits("(if (if no yes no) 1 (if yes 2 3))", [
            [(0, "if")], [(0, "if"), (0, "if")], [(0, "if")], [], [(0, "if")], [], []])

    def test_let(self):
        self.waits("(let x 1 (let y 2 x))", [[(0, "let")], [], [(0, "let")], [], []])

    def test_hold(self):
        self.waits("(hold x (hold y 1))", [[(0, "hold")], [(0, "hold"), (0, "hold")], []])

    def test_heed(self):
        self.waits("(heed 1 2)", [[(0, "heed")], []])
        self.waits("(heed x (fun (w) w))", [[(0, "heed")], [(0, "heeded")], [], [], []])
        self.waits("(heed x (let f (fun (w) w) f))", [
            [(0, "heed")], [(0, "heeded")], [(0, "let"), (0, "heeded")], [(0, "heeded")], [], [], []])

    def test_heeded_ended_by_another_fault(self):
        self.waits("(heed (heed x y) (fun (w) 1))", [
            [(0, "heed")], [(0, "heed"), (0, "heed")], [(0, "heeded"), (0, "heed")], [(0, "heeded")], [], [], []])
        self.waits("(heed x y)", [[(0, "heed")], [(0, "heeded")], []])

    def test_levels(self):
        self.waits("(plus 1 (up (if (up yes) 2 3)))", [
            [(0, "put")], [(0, "put")], [(0, "put")], [(0, "put")], [(1, "if"), (0, "put")], [(1, "if"), (0, "put")],
            [(0, "put")], [], []])
        self.waits("(up (heed (up (hold x y)) (fun (w) 1)))", [
            [], [(1, "heed")], [(1, "heed")], [(2, "hold"), (1, "heed")], [(1, "heeded")], [], [], []])

    def test_reads(self):
        self.waits("(up (reads (say (1 (let x 2 x))) ()))", [
            [], [(1, "put")], [(1, "put")], [(1, "put")], [], [(0, "reads")], [(0, "reads")],
            [(0, "let"), (0, "reads")], [(0, "reads")], []])
        self.waits("(up (up (reads (say (x)) ())))", [
            [], [], [(2, "put")], [(2, "put")], [(2, "put")], [], [(1, "reads")], []], "(up (hold x 1))")
        self.waits("(up (reads () ()))", [[], [(1, "put")], [(1, "put")], [(1, "put")], [], []])

    def test_things_that_wait_for_nothing(self):
        self.waits("(up (say x))", [[], []])
        self.waits("(fun (x) x)", [[]])
        # What a reader reads waits where the reader does, not where the thing would.
        self.waits("(if yes 1 2)", [[], []], "(up (change (say if) join))")
        self.waits("(if yes 1 2)", [
            [], [], [(1, "put")], [(1, "put")], [(1, "put")], [], [(0, "if")], [], []],
            "(up (change (say if) (fun (t r) (plain t r))))")

    def test_over_by_a_fault(self):
        self.waits("(let x (plus 1 (if y 1 2)) x)", [
            [(0, "let")], [(0, "put"), (0, "let")], [(0, "put"), (0, "let")], [(0, "put"), (0, "let")],
            [(0, "if"), (0, "put"), (0, "let")], []])


class OnTheWay(unittest.TestCase):
    """Point 21: held and readers as the line left them so far."""

    def test_held_and_readers(self):
        stair = behind("(hold x 1)", "(up (change (say let) plain))")
        walk = Walk(stair, "(join (hold x 2) (join (up (change (say if) plain)) (up (change (say let) no))))")
        found = []
        while not walk.over():
            found.append((walk.held(), walk.readers()))
            walk.step()
        found.append((walk.held(), walk.readers()))
        unlike = [row for at, row in enumerate(found) if at == 0 or row != found[at - 1]]
        self.assertEqual([
            ({"x": "1"}, ["let"]), ({"x": "2"}, ["let"]), ({"x": "2"}, ["if", "let"]), ({"x": "2"}, ["if"]),
        ], unlike)
        self.assertEqual(({"x": "1"}, ["let"]), (stair.held(), stair.readers()))

    def test_left_out_levels(self):
        walk = Walk(behind("(hold x 1)", "(up (hold y 2))", "(up (change (say if) plain))"), "1")
        self.assertEqual(({"x": "1"}, {"y": "2"}, ["if"], []), (walk.held(), walk.held(1), walk.readers(), walk.readers(0)))

    def test_settled_is_a_stair_of_its_own(self):
        stair = behind("(hold x 1)")
        walk = Walk(stair, "(hold x 2)")
        walk_on(walk)
        one, other = walk.settled(), walk.settled()
        one.tell("(hold x 3)")
        other.back(many=2)
        self.assertEqual(({"x": "1"}, {"x": "3"}, {}), (stair.held(), one.held(), other.held()))
        self.assertEqual({"x": "2"}, walk.settled().held())
        self.assertEqual({"x": "2"}, walk.held())

    def test_settled_of_a_quick_is_one(self):
        stair = Quick(height=2)
        stair.tell("(hold x 1)")
        walk = Walk(stair, "(hold x (plus x 1))")
        walk_on(walk)
        self.assertIsInstance(walk.settled(), Quick)
        self.assertNotIsInstance(Walk(Stair(), "1").copy().start, Quick)
        self.assertEqual((2, 2), (stair.made(), walk.settled().height))
        self.assertEqual("2", walk.settled().tell("x"))


class Back(unittest.TestCase):
    """Point 20: steps taken back, and copies."""

    LINE = "(heed (plus (hold x 1) (up (change (say fixed) (fun (t r) (if y t r))))) (fun (w) (hold z w)))"

    def test_none_one_several_all(self):
        full = Walk(Stair(), self.LINE)
        rows = walk_on(full)
        looks = []
        walk = Walk(Stair(), self.LINE)
        for at in range(len(rows) + 1):
            looks.append(look(walk))
            walk.step()
        for many in range(len(rows) + 1):
            walk = full.copy()
            self.assertIsNone(walk.back(many=many))
            self.assertEqual(looks[len(rows) - many], look(walk))
            self.assertEqual(rows[len(rows) - many:], walk_on(walk))
            self.assertEqual(whole(full), whole(walk))

    def test_ahead_of_the_end(self):
        rows = walk_on(Walk(Stair(), self.LINE))
        for done in range(len(rows)):
            for many in range(done + 1):
                walk = Walk(Stair(), self.LINE)
                for at in range(done):
                    walk.step()
                walk.back(many=many)
                self.assertEqual(done - many, walk.steps)
                self.assertEqual(rows[done - many:], walk_on(walk))

    def test_left_out_is_one(self):
        walk = Walk(Stair(), "(plus 1 2)")
        walk_on(walk)
        self.assertIsNone(walk.back())
        self.assertEqual((4, False), (walk.steps, walk.over()))

    def test_refused(self):
        for many in (0, 1, 3, 5):
            walk = Walk(Stair(), "(plus 1 2)")
            for at in range(many):
                walk.step()
            ahead = whole(walk)
            for wrong in (many + 1, many + 100) + NO_NUMBERS:
                with self.assertRaises(NoBack):
                    walk.back(many=wrong)
                self.assertEqual(ahead, whole(walk))
        with self.assertRaises(NoBack):
            Walk(Stair(), "1").back()

    def test_of_none_all_is_as_it_was(self):
        walk = Walk(Stair(), "(plus 1 2)")
        walk_on(walk)
        walk.back(many=0)
        self.assertEqual((True, "3"), (walk.over(), walk.answer()))
        walk = Walk(Stair(), "x")
        walk_on(walk)
        walk.back(many=0)
        self.assertEqual((True, ("Fault", [("word", "unknown")])), (walk.over(), outcome(walk.answer)))

    def test_copies_go_their_own_way(self):
        first = Walk(Stair(), self.LINE)
        for at in range(6):
            first.step()
        ahead = whole(first)
        other = first.copy()
        self.assertIsInstance(other, Walk)
        self.assertEqual(ahead, whole(other))
        walk_on(other)
        self.assertEqual(ahead, whole(first))
        there = whole(other)
        first.back(many=4)
        first.step()
        self.assertEqual(there, whole(other))
        other.back(many=other.steps)
        self.assertEqual(whole(Walk(Stair(), self.LINE)), whole(other))
        self.assertEqual(3, first.steps)

    def test_the_stair_goes_on(self):
        stair = behind("(hold x 1)", "(hold f (fun (n) (plus n x)))")
        walk, still = Walk(stair, "(f 2)"), Walk(stair.copy(), "(f 2)")
        stair.tell("(hold x 5)")
        walk.step()
        still.step()
        stair.write(1, "put")
        stair.tell("(up (change (say name) (fun (t r) 9)))")
        walk.step()
        still.step()
        self.assertEqual(whole(still), whole(walk))
        stair.back(many=5)
        self.assertEqual(whole(still), whole(walk))
        walk_on(walk)
        walk_on(still)
        self.assertEqual("3", walk.answer())
        self.assertEqual(whole(still), whole(walk))
        self.assertEqual(state(Stair()), state(stair))

    def test_the_walk_leaves_the_stair(self):
        for kind in (Stair, Quick):
            stair = kind()
            stair.tell("(hold x 1)")
            ahead = all_state(stair)
            walk = Walk(stair, "(plus (hold x 2) (up (change (say fixed) (fun (t r) 7))))")
            walk_on(walk)
            outcome(walk.answer)
            self.assertEqual(ahead, all_state(stair))

    def test_with_readers_written_out(self):
        stair = Stair()
        stair.tell(LOOP)
        for level in (1, 2):
            for kind in READERS:
                stair.write(level, kind)
        rows = stair.trace("(loop 1)", most=MANY)
        walk = Walk(stair, "(loop 1)")
        self.assertEqual(rows, walk_on(walk))
        self.assertEqual("1", walk.answer())
        self.assertIn(2, {row[0] for row in rows})

"""Points 4 and 17: the quick machine."""

import unittest
from unittest import mock

from mirrorstair.data import read_data
from mirrorstair.errors import Fault, NoBack, StairError, TooHigh, TooLong
from mirrorstair.quick import Quick
from mirrorstair.stair import Stair
from tests import helpers, test_built, test_reading, test_stair, test_written
from tests.helpers import LOOP, MANY, READERS, all_state, state, told, traced
from tests.programs import Maker
from tests.reference import DeepCalls, Reference

CHANGE = "(up (change (say if) (fun (t r) (plain t r))))"
CHANGE_BACK = "(up (change (say if) no))"


def quick_told(*lines, height=None):
    quick = Quick(height=height)
    for line in lines:
        quick.tell(line)
    return quick


def needed(stair, line, **more):
    try:
        return stair.needed(line, **more)
    except StairError as refusal:
        return type(refusal).__name__, sorted(vars(refusal).items())


class QuickInPlace:
    """Tests written for a Stair, done with a Quick in its place."""

    def setUp(self):
        for module in (helpers, test_built, test_reading, test_stair, test_written):
            if hasattr(module, "Stair"):
                patch = mock.patch.object(module, "Stair", Quick)
                patch.start()
                self.addCleanup(patch.stop)
        super().setUp()


class StepsOfQuick(QuickInPlace, test_stair.Steps):
    pass


class HeightsOfQuick(QuickInPlace, test_stair.Heights):
    pass


class TellingOfQuick(QuickInPlace, test_stair.Telling):
    pass


class BackOfQuick(QuickInPlace, test_stair.Back):
    pass


class TracesOfQuick(QuickInPlace, test_stair.Traces):
    pass


class WriteOfQuick(QuickInPlace, test_written.Write):
    pass


class AsAStair(unittest.TestCase):
    """Rows of lines told to a Quick and to a Stair by turns."""

    def same(self, stair, quick, line, most):
        ahead = quick.made()
        self.assertEqual(traced(stair, line, most=most), traced(quick, line, most=most))
        self.assertEqual(needed(stair, line, most=most), needed(quick, line, most=most))
        self.assertEqual(told(stair, line, most=most), told(quick, line, most=most))
        self.assertEqual(state(stair), state(quick))
        self.assertGreaterEqual(quick.made(), ahead)

    def do_one(self, chance, stair, quick):
        """Something else than a line."""
        way = chance.choice(("back", "write", "copy", "none", "none", "none"))
        if way == "write":
            level, kind = chance.randrange(1, 4), chance.choice(READERS)
            for one in (stair, quick):
                try:
                    one.write(level, kind)
                except StairError:
                    pass
        if way == "back":
            many = chance.randrange(3)
            for one in (stair, quick):
                try:
                    one.back(many=many)
                except NoBack:
                    pass
        if way == "copy":
            stair, quick = stair.copy(), quick.copy()
            self.assertIsInstance(quick, Quick)
            self.assertEqual(0, quick.made())
        self.assertEqual(state(stair), state(quick))
        return stair, quick

    def rows(self, seed, height, most):
        maker = Maker(seed, 3)
        stair, quick = Stair(height=height), Quick(height=height)
        for at in range(8):
            line = maker.line()
            with self.subTest(seed=seed, height=height, line=line):
                self.same(stair, quick, line, most)
                self.same(stair, quick, line, most)
                stair, quick = self.do_one(maker.chance, stair, quick)
        self.assertEqual(all_state(stair), all_state(quick))

    def test_endless(self):
        for seed in range(80):
            self.rows(seed, None, 1500)

    def test_heights(self):
        for seed in range(60):
            self.rows(500 + seed, seed % 4, 1500)

    def test_few_steps(self):
        for seed in range(60):
            self.rows(900 + seed, None, 5 + seed % 40)

    def test_readers_changed_at_several_levels(self):
        stair, quick = Stair(), Quick()
        for line in (
            LOOP, "(loop 5)", "(up (change (say fixed) (fun (t r) (if (is (say number) t) (plus t 1) t))))", "(loop 5)", "5",
            "(up (up (change (say if) (fun (t r) (plain t r)))))", "5", "(loop 1)", "(up (change (say fixed) no))", "5",
            "(up (up (change (say fixed) (fun (t r) (join t ())))))", "(up 5)", "5", "(up (plus 1 2))", "(say 5)",
            "(join (say 1) (up (let q (change (say say) (fun (t r) 7)) (read (say (say 1)) ()))))", "(say 1)",
            "(heed (plus (say 1) (up (let q (change (say say) no) (fault (say a))))) (fun (w) w))", "(say 1)",
            "(plus (up (change (say name) no)) (fault (say b)))", "(say 1)",
        ):
            self.same(stair, quick, line, 4000)
        for at in range(20):
            for line in ("5", "(say 1)", "(up 5)", "(if yes 5 6)", "(plus (up (change (say fixed) no)) x)"):
                self.same(stair, quick, line, 4000)
            for one in (stair, quick):
                try:
                    one.back(many=4)
                except NoBack:
                    one.back(many=0)

    def test_written_heaps(self):
        stair, quick = Stair(), Quick()
        for one in (stair, quick):
            for level in (1, 2):
                for kind in READERS:
                    one.write(level, kind)
        for line in (LOOP, "(loop 2)", "(heed (plus 1 no) (fun (w) w))", "(up (hold x 1))", "(hold x (up x))"):
            self.same(stair, quick, line, MANY)

    def test_refused_with_their_fields(self):
        quick = quick_told("(hold x 1)", height=1)
        ahead = all_state(quick)
        with self.assertRaises(Fault) as caught:
            quick.tell("(plus (hold x 2) (fault (say bad)))")
        self.assertEqual("bad", caught.exception.word)
        with self.assertRaises(TooHigh) as caught:
            quick.tell("(plus (hold x 2) (up (up 1)))")
        self.assertEqual((1, "(up 1)"), (caught.exception.level, caught.exception.text))
        with self.assertRaises(TooLong) as caught:
            quick.tell("(plus (hold x 2) 3)", most=4)
        self.assertEqual(4, caught.exception.steps)
        self.assertEqual(ahead, all_state(quick))

    def test_deep_and_great(self):
        quick = Quick()
        quick.tell(LOOP)
        self.assertEqual("11000", quick.tell("(loop 11000)", most=MANY))
        self.assertEqual(f"!long {MANY}", told(quick, "(let g (fun (g) (plus 1 (g g))) (g g))", most=MANY))
        # A thing of 400 depths that is read.
        quick.tell("(hold nest (fun (n t) (if (less n 1) t (nest (minus n 1) (join (say plus) (join 1 (join t ())))))))")
        self.assertEqual("400", quick.tell("(here (nest 400 0) ())", most=MANY))
        # Functions in rooms of functions, each in two places of the next.
        quick.tell("(hold twice (fun (n f) (if (less n 1) f (twice (minus n 1) (let g f (fun (x) (g (f x))))))))")
        self.assertEqual("(<x>)", quick.tell("(up (reads (join (read (say (twice 200 plus)) ()) ()) ()))", most=MANY))

    def test_a_quick_is_a_stair(self):
        self.assertIsInstance(Quick(), Stair)
        self.assertEqual((None, 3, 0, 0), (Quick().height, Quick(height=3).height, Quick().steps, Quick().reached))
        self.assertIsInstance(Quick(height=3).copy(), Quick)
        self.assertEqual(3, Quick(height=3).copy().height)
        with self.assertRaises(TypeError):
            Quick(3)


class Made(unittest.TestCase):
    """Point 17: how many rows were made."""

    def made(self, many, *lines):
        self.assertEqual(many, quick_told(*lines).made(), lines)

    def test_of_a_new_one(self):
        self.made(0)

    def test_of_things_read(self):
        self.made(1, "1")
        self.made(4, "(plus 1 2)")
        self.made(2, "(hold x 1)")
        self.made(3, "(let x 1 x)")
        self.made(4, "((fun (y) y) 1)")
        self.made(4, "(heed x (fun (w) w))")
        self.made(2, "(heed 1 2)")

    def test_of_a_line_told_twice(self):
        for line in ("1", "(plus 1 2)", "(up (read (say (plus 1 2)) ()))", "(heed x (fun (w) w))", "(fun (x) x)"):
            quick = quick_told(line)
            ahead = quick.made()
            for at in range(3):
                quick.tell(line)
                self.assertEqual(ahead, quick.made())
        # A function that stands in a thing is made anew each time, but alike.
        quick = quick_told("(up (read (join (fun (x) x) (say (5))) ()))")
        ahead = quick.made()
        quick.tell("(up (read (join (fun (x) x) (say (5))) ()))")
        self.assertEqual(ahead, quick.made())

    def test_of_parts_to_which_reading_does_not_come(self):
        self.made(1, "(say (plus 1 2))")
        self.made(1, "(fun (x) (plus x 1))")
        self.made(3, "(if yes 1 2)")
        self.made(6, "(if yes 1 2)", "(if no 1 2)")
        self.made(2, "(heed 1 (fun (w) (plus w 1)))")

    def test_of_the_same_at_two_levels(self):
        self.made(1, "1", "1")
        self.made(3, "1", "(up 1)")
        self.made(6, "1", "(up 1)", "(up (up 1))")
        self.made(5, "(plus 1 (up 1))")

    def test_of_alike_things(self):
        self.made(3, "(plus 1 1)")
        self.made(4, "(plus (say 1) (say 1))", "(say 1)", "(plus (say 1) (say 1))", "1")
        self.made(4, "(join () (join () ()))")

    def test_of_things_that_only_look_alike(self):
        self.made(2, "1", "yes")
        self.made(2, "0", "no")
        self.made(4, "(say 1)", "(say yes)", "(say (1))", "(say (yes))")
        self.made(3, "(say x)", "(say (x))", "(say ((x)))")
        self.made(2, "()", "(say ())")
        quick = quick_told("(up (read (fun (x) 1) ()))")
        ahead = quick.made()
        quick.tell("(up (read (fun (x) 2) ()))")
        # The up, the put, the function at level 1, and what it comes to at level 0; read and () were known.
        self.assertEqual(ahead + 4, quick.made())

    def test_behind_a_changed_table(self):
        quick = quick_told("5", "(plus 1 2)")
        self.assertEqual(5, quick.made())
        quick.tell(CHANGE)
        self.assertEqual(10, quick.made())
        quick.tell("5")
        self.assertEqual(11, quick.made())
        quick.tell("5")
        self.assertEqual(11, quick.made())
        quick.write(3, "give")
        self.assertEqual(11, quick.made())
        quick.tell("5")
        quick.tell("5")
        self.assertEqual(12, quick.made())

    def test_within_a_line(self):
        quick = quick_told("(join 5 (join (up (change (say if) plain)) (join 5 ())))")
        ahead = quick.made()
        quick.tell("5")
        quick.tell("()")
        self.assertEqual(ahead, quick.made())
        # Nine up to the change, and behind it (join 5 ()), join, 5 and () once more.
        self.assertEqual(13, ahead)

    def test_changed_and_changed_back(self):
        quick = quick_told("5", CHANGE, CHANGE_BACK)
        ahead = quick.made()
        quick.tell("5")
        self.assertEqual(ahead + 1, quick.made())
        quick.tell("5")
        self.assertEqual(ahead + 1, quick.made())

    def test_what_leaves_the_tables_as_they_are(self):
        quick = quick_told("5", CHANGE_BACK)
        ahead = quick.made()
        quick.tell("5")
        quick.tell(CHANGE_BACK)
        quick.tell("(hold x 1)")
        self.assertEqual(ahead + 2, quick.made())

    def test_behind_refused_lines(self):
        quick = quick_told("5")
        for line in (
            "(plus 5 (fault (say x)))", "(plus (up (change (say if) plain)) x)", "(let q (up (change (say if) plain)) (5))",
        ):
            for at in range(2):
                self.assertTrue(told(quick, line).startswith("!"))
        self.assertEqual(1, quick.made())
        quick.tell("5")
        self.assertEqual(1, quick.made())

    def test_read_first_behind_a_change_that_is_refused(self):
        quick = Quick()
        told(quick, "(let q (up (change (say if) (fun (t r) 1))) (plus (if yes 5 6) x))")
        ahead = quick.made()
        self.assertEqual("5", quick.tell("(if yes 5 6)"))
        self.assertEqual(ahead + 3, quick.made())

    def test_trace_and_needed(self):
        quick = quick_told("5")
        for line in ("(plus 5 6)", CHANGE, "x"):
            traced(quick, line)
            needed(quick, line)
        quick.tell("5")
        self.assertEqual(1, quick.made())

    def test_behind_back(self):
        quick = quick_told("5", "(hold x 1)", "(plus x 1)")
        ahead = quick.made()
        quick.back(many=2)
        self.assertEqual(ahead, quick.made())
        quick.tell("(hold x 1)")
        quick.tell("5")
        self.assertEqual(ahead, quick.made())
        quick = quick_told("5", CHANGE)
        ahead = quick.made()
        quick.back()
        quick.tell("5")
        self.assertEqual(ahead + 1, quick.made())
        quick.back(many=0)
        with self.assertRaises(NoBack):
            quick.back(many=5)
        quick.tell("5")
        self.assertEqual(ahead + 1, quick.made())

    def test_answers_behind_back(self):
        quick = quick_told("(up (change (say fixed) (fun (t r) 7)))", "5")
        self.assertEqual("7", quick.tell("5"))
        quick.back(many=3)
        self.assertEqual("5", quick.tell("5"))

    def test_of_copies(self):
        quick = quick_told("(plus 1 2)")
        other = quick.copy()
        self.assertEqual((4, 0), (quick.made(), other.made()))
        other.tell("(plus 1 3)")
        self.assertEqual((4, 4), (quick.made(), other.made()))
        other.tell(CHANGE)
        quick.tell("(plus 1 2)")
        self.assertEqual(4, quick.made())
        quick.tell("(plus 1 3)")
        self.assertEqual((6, 9), (quick.made(), other.made()))

    def test_reading_plainly_makes_none(self):
        self.made(5, "(up (plain (say 5) ()))")
        self.made(6, "(up (read (say 5) ()))")


class MadeByChance(DeepCalls):
    """As many rows as unlike things were read at unlike levels, from one change of a table to the next."""

    def test_rows(self):
        compared = sum([self.compare(seed) for seed in range(150)])
        self.assertGreater(compared, 500)

    def compare(self, seed):
        maker = Maker(7000 + seed, 3)
        quick, reference = Quick(), Reference(None, 1000)
        seen, many = set(), 0
        lines = [maker.line() for at in range(6)]
        for at, line in enumerate(lines + lines):
            expected = reference.tell(read_data(line))
            self.assertEqual(expected, told(quick, line, most=1000))
            if not expected.startswith("!"):
                if any("<" in row[3] for row in reference.rows if row[1] != "give"):
                    return at
                seen, more = self.count(reference, set(seen))
                many += more
            self.assertEqual(many, quick.made(), (seed, lines))
        return len(lines)

    def count(self, reference, seen):
        many = 0
        tables = [mark[2] for mark in reference.marks]
        for at, (level, kind, by, text) in enumerate(reference.rows):
            if kind != "give" and (level, text) not in seen:
                seen.add((level, text))
                many += 1
            if tables[at + 1] != tables[at]:
                seen = set()
        return seen, many

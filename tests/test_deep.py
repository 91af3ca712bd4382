"""Point 3 and rule L11: great and deep things, with few calls within one another."""

import sys
import unittest

from mirrorstair.desk import Desk
from mirrorstair.frozen import frozen, thawed
from mirrorstair.quick import Quick
from mirrorstair.stair import Stair
from mirrorstair.walk import Walk
from tests.helpers import MANY, told

BUILD = "(hold build (fun (n l) (if (less n 1) l (build (minus n 1) (join n l)))))"
NEST = "(hold nest (fun (n l) (if (less n 1) l (nest (minus n 1) (join l ())))))"
ENDLESS = "(let g (fun (g) (heed (plus 1 (g g)) 1)) (g g))"


class FewCalls(unittest.TestCase):
    def setUp(self):
        self.addCleanup(sys.setrecursionlimit, sys.getrecursionlimit())
        # What unittest itself wants, and some more.
        sys.setrecursionlimit(200)

    def test_values(self):
        for kind in (Stair, Quick):
            stair = kind()
            stair.tell(BUILD)
            stair.tell(NEST)
            stair.tell("(hold big (build 9000 ()))", most=MANY)
            stair.tell("(hold big (build 9000 big))", most=MANY)
            self.assertEqual("18000", stair.tell("(count big)"))
            stair.tell("(hold deep (nest 399 ()))", most=MANY)
            self.assertEqual("(" * 400 + ")" * 400, stair.tell("deep"))
            self.assertEqual("yes", stair.tell("(alike deep (nest 399 ()))", most=MANY))
            self.assertEqual("!sort", told(stair, "(alike deep (nest 399 plus))", most=MANY))

    def test_things_within_one_another(self):
        for kind in (Stair, Quick):
            self.assertEqual(f"!long {MANY}", told(kind(), ENDLESS, most=MANY))
            walk = Walk(kind(), ENDLESS)
            for at in range(50000):
                walk.step()
            self.assertGreater(len(walk.waiting()), 12000)
            walk.back(many=49999)
            self.assertEqual([(0, "let")], walk.waiting())

    def test_things_read_below(self):
        for kind in (Stair, Quick):
            stair = kind()
            stair.tell(BUILD)
            stair.tell("(hold big (build 9000 ()))", most=MANY)
            line = "(up (count (reads (read (say big) ()) ())))"
            self.assertEqual("9000", stair.tell(line, most=MANY))
            walk = Walk(stair, line)
            while not walk.over():
                walk.step()
            walk.back(many=6000)
            other = walk.copy()
            while not other.over():
                other.step()
            self.assertEqual("9000", other.answer())

    def test_texts_of_frozen(self):
        deep = "(no 0 0 ((0 f " + "(fun () 1 ((f " * 2900 + "1" + ")))" * 2900 + ")) ())"
        bare = "(no 0 0 ((0 f " + "(list " * 7000 + "1" + ")" * 7000 + ")) ())"
        for text in (deep, bare):
            for quick in (False, True):
                stair = thawed(text, quick=quick)
                self.assertEqual(text, frozen(stair))
        self.assertEqual("1", thawed(deep, quick=True).tell("(here (join f ()) ())"))

    def test_lines_behind_one_another(self):
        desk = Desk()
        desk.tell("quick a")
        for at in range(200):
            desk.tell(f"tell a (hold x {at})")
        desk.tell("back a 150")
        self.assertEqual("x=49", desk.tell("held a 0"))
        for at in range(202):
            desk.tell("undo")
        self.assertEqual("ok", desk.tell("new a -"))

    def test_deep_texts(self):
        deep = "(if yes " * 59 + "1" + " 2)" * 59
        long = "(say (" + " ".join(["abc"] * 990) + "))"
        for kind in (Stair, Quick):
            self.assertEqual("1", kind().tell(deep))
            self.assertEqual(long[5:-1], kind().tell(long))
            self.assertEqual(len(kind().trace(deep)), 119)

"""Points 15 and 16: readers written out."""

import unittest

from mirrorstair.data import data_text, read_data
from mirrorstair.errors import NoBack, NoKind, NoLevel, StairError
from mirrorstair.stair import Stair
from mirrorstair.written import written
from tests.helpers import LOOP, MANY, READERS, all_state, state, told
from tests.test_built import BELOW_RESULTS, RESULTS
from tests.test_reading import MISSHAPEN, PLAIN

BUILT = (
    "plus minus times less alike first rest join count part is fault here "
    "read plain reads give hand made look keep change reader"
).split()
NO_KINDS = (
    "", "plus", "read", "kind", "gives", "Give", " if", "if ", "yes", None, 0, 1, True, False, (), [], ["if"], ("if",), {},
    b"if", object(),
)
NO_LEVELS = (0, -1, 13, 14, 200, True, False, None, "1", 1.0, (), [], {}, object())
FAULTS = tuple([(f"(heed {line} (fun (w) (join w (join 7 ()))))", "") for line, expected in PLAIN if expected[0] == "!"])


def parts(thing):
    """All that stands anywhere in a thing."""
    found = [thing]
    if isinstance(thing, tuple):
        for part in thing:
            found += parts(part)
    return found


def ground(rows):
    """What was read and given at level 0, by whatever reader."""
    return [(kind, text) for level, kind, by, text in rows if level == 0]


class Texts(unittest.TestCase):
    def test_texts_of_the_language(self):
        for kind in READERS:
            text = written(kind)
            self.assertEqual(text, data_text(read_data(text)))
            self.assertLessEqual(len(text), 4000)

    def test_come_to_functions(self):
        for kind in READERS:
            answer = Stair().tell(written(kind))
            self.assertTrue(answer.startswith("<") and not answer.startswith("<."), answer)
            self.assertEqual(2, len(answer.split()))

    def test_never_by_plain(self):
        for kind in READERS:
            self.assertNotIn("plain", parts(read_data(written(kind))))
            self.assertNotIn("up", parts(read_data(written(kind))))

    def test_refused(self):
        for thing in NO_KINDS:
            with self.assertRaises(NoKind):
                written(thing)

    def test_by_name(self):
        self.assertEqual(written("if"), written(kind="if"))


class AsPlainly(unittest.TestCase):
    """What is read is answered, held and traced below as without them."""

    def compare(self, plain, other, line):
        rows, others = [], []
        try:
            rows = plain.trace(line, most=MANY)
        except StairError:
            pass
        try:
            others = other.trace(line, most=MANY)
        except StairError:
            pass
        self.assertEqual(ground(rows), ground(others), line)
        self.assertEqual(told(plain, line, most=MANY), told(other, line, most=MANY), line)
        self.assertEqual([plain.held(0), plain.held(1)], [other.held(0), other.held(1)], line)

    def lines(self):
        rows = [line for line, expected in PLAIN + RESULTS + FAULTS]
        rows += [f"(up {line})" for line, expected in BELOW_RESULTS if "reader" not in line]
        rows += list(MISSHAPEN) + [f"(heed {line} (fun (w) (join w ())))" for line in MISSHAPEN]
        return rows

    def test_each_kind(self):
        for kind in READERS:
            for level in (1, 2):
                for line in self.lines():
                    other = Stair()
                    other.write(level, kind)
                    self.compare(Stair(), other, line)

    def test_each_kind_up(self):
        for kind in READERS:
            for line, expected in PLAIN:
                other = Stair()
                other.write(1, kind)
                other.write(2, kind)
                self.compare(Stair(), other, f"(up {line})")

    def test_all_kinds(self):
        for line in self.lines():
            other = Stair()
            for kind in READERS:
                other.write(1, kind)
            self.compare(Stair(), other, line)

    def test_heaps(self):
        for line in self.lines()[::4]:
            other = Stair()
            for level in (1, 2):
                for kind in READERS:
                    other.write(level, kind)
            self.compare(Stair(), other, line)

    def test_at_great_levels(self):
        other = Stair()
        for kind in READERS:
            other.write(12, kind)
        self.compare(Stair(), other, "(up (plus 1 (hold x 2)))")
        line = "(plus 1 (hold x 2))"
        for at in range(11):
            line = f"(up {line})"
        self.assertEqual("3", other.tell(line))
        self.assertEqual({"x": "2"}, other.held(11))
        self.assertEqual(12, other.reached)

    def test_rows_of_lines(self):
        plain, other = Stair(), Stair()
        for level in (1, 2):
            for kind in READERS:
                other.write(level, kind)
        for line in (
            "(hold x 1)", "(hold f (fun (a) (plus a x)))", "(f 5)", "(up (hold f 3))", "(f (up f))",
            "(up (change (say fixed) (fun (t r) (join t r))))", "(let q (say z) 5)", "(up (change (say fixed) no))", "5",
            "(up (change (say name) (fun (t r) (heed (look t r) (fun (w) t)))))", "(join u (join x ()))",
            "(up (hold n 0))", "(up (change (say say) (fun (t r) (let k (hold n (plus n 1)) (part t 1)))))",
            "(join (say a) (join (say b) (say ())))", "(up n)", "(heed (plus 1 (say a)) (fun (w) w))",
        ):
            self.compare(plain, other, line)
        self.assertEqual("4", plain.tell("(up n)"))

    def filled(self, stair, levels):
        """A stair at some of whose levels all words come to be held that readers could name."""
        for level in levels:
            for word in BUILT + ["t", "r", "v", "a", "w", "x"]:
                line = f"(hold {word} 5)"
                for at in range(level):
                    line = f"(up {line})"
                stair.tell(line)
        return stair

    def test_whatever_is_held(self):
        for levels in ((1,), (1, 2), (0, 1, 2)):
            plain = self.filled(Stair(), levels)
            for kind in READERS:
                behind = plain.copy()
                behind.write(1, kind)
                ahead = Stair()
                ahead.write(1, kind)
                self.filled(ahead, levels)
                for line, expected in PLAIN + FAULTS:
                    self.compare(plain.copy(), behind.copy(), line)
                    self.compare(plain.copy(), ahead.copy(), line)

class Write(unittest.TestCase):
    def test_puts_it_into_the_table(self):
        stair = Stair()
        for level in range(1, 13):
            for kind in READERS:
                self.assertIsNone(stair.write(level, kind))
        for level in range(1, 13):
            self.assertEqual(sorted(READERS), stair.readers(level))
        self.assertEqual(([], []), (stair.readers(0), stair.readers(13)))

    def test_the_function_of_the_text(self):
        for kind in READERS:
            if kind == "up":
                continue
            stair = Stair()
            stair.write(2, kind)
            self.assertEqual(Stair().tell(written(kind)), stair.tell(f"(up (up (reader (say {kind}))))"))

    def test_in_the_place_of_another(self):
        stair = Stair()
        stair.tell("(up (change (say fixed) (fun (t r) 5)))")
        self.assertEqual("5", stair.tell("1"))
        stair.write(1, "fixed")
        self.assertEqual("1", stair.tell("1"))
        self.assertEqual(["fixed"], stair.readers())

    def test_refused_in_order(self):
        stair = Stair()
        stair.tell("(hold x 1)")
        ahead = all_state(stair)
        for level in NO_LEVELS:
            for kind in ("if", "give", "plus", None, []):
                with self.assertRaises(NoLevel):
                    stair.write(level, kind)
        for level in (1, 12):
            for kind in NO_KINDS:
                with self.assertRaises(NoKind):
                    stair.write(level, kind)
        self.assertEqual(ahead, all_state(stair))

    def test_to_the_height(self):
        for height in range(13):
            stair = Stair(height=height)
            for level in range(1, 14):
                if level <= height:
                    stair.write(level, "if")
                else:
                    with self.assertRaises(NoLevel):
                        stair.write(level, "if")
                    with self.assertRaises(NoLevel):
                        stair.write(level, "nothing")
            self.assertEqual([["if"]] * height, [stair.readers(level) for level in range(1, height + 1)])

    def test_a_line_for_back_without_steps(self):
        stair = Stair()
        stair.tell("(hold x 1)")
        ahead = state(stair)
        stair.write(3, "if")
        self.assertEqual((2, 0), (stair.steps, stair.reached))
        stair.tell("(hold x 2)")
        stair.back()
        self.assertEqual(["if"], stair.readers(3))
        stair.back()
        self.assertEqual(ahead, state(stair))
        stair.back()
        with self.assertRaises(NoBack):
            stair.back()

    def test_copies(self):
        stair = Stair()
        stair.write(1, "if")
        other = stair.copy()
        other.write(1, "say")
        stair.back()
        self.assertEqual(([], ["if", "say"]), (stair.readers(), other.readers()))

    def test_whatever_this_stair_holds(self):
        # The text comes to its function on a new stair, not on this one.
        stair = Stair()
        for word in BUILT:
            stair.tell(f"(hold {word} 0)")
        stair.tell("(up (change (say let) (fun (t r) 0)))")
        stair.write(2, "let")
        self.assertEqual("7", stair.tell("(up (let x 7 x))"))

    def test_deep(self):
        stair = Stair()
        stair.tell(LOOP)
        for kind in ("if", "give", "put"):
            stair.write(1, kind)
        self.assertEqual("1000", stair.tell("(loop 1000)", most=MANY))

    def test_readers_stay_when_others_change(self):
        stair = Stair()
        stair.write(1, "if")
        stair.tell("(up (change (say let) plain))")
        self.assertEqual(["if", "let"], stair.readers())

"""Point 4, the whole: rows of lines made by chance, on stairs of all heights, with and without readers written out."""

import unittest

from mirrorstair.data import data_text, read_data
from mirrorstair.errors import StairError
from mirrorstair.frozen import frozen
from mirrorstair.quick import Quick
from mirrorstair.stair import Stair
from tests.helpers import READERS, all_state, state, told, traced
from tests.programs import Maker
from tests.reference import DeepCalls, Reference

MOST = 1500


def held_words(stair):
    return [stair.held(0), stair.held(1)]


def ground(rows):
    """What was read and given at level 0, by whatever reader; of a refusal nothing."""
    return [row[:2] + row[3:] for row in rows if row[0] == 0]


def reference_state(reference, levels=6):
    held = [
        {word: data_text(value) for (at, word), value in sorted(reference.held.items(), key=lambda row: row[0])
         if at == level}
        for level in range(levels)
    ]
    readers = [sorted([key for at, key in reference.tables if at == level]) for level in range(levels)]
    return held, readers, reference.steps, reference.reached, reference.height


class AgainstTheRules(DeepCalls):
    """Every stair does what the rules say, read off the document by recursion."""

    def compare(self, seed, height, most):
        maker = Maker(seed, 3)
        stair = Stair(height=height)
        reference = Reference(height, most)
        for at in range(8):
            line = maker.line()
            with self.subTest(seed=seed, height=height, line=line):
                rows = traced(stair, line, most=most)
                expected = reference.tell(read_data(line))
                self.assertEqual(expected, told(stair, line, most=most))
                self.assertEqual(reference_state(reference), state(stair))
                if not expected.startswith("!"):
                    self.assertEqual(reference.rows, rows)

    def test_endless(self):
        for seed in range(300):
            self.compare(seed, None, MOST)

    def test_heights(self):
        for seed in range(120):
            self.compare(1000 + seed, seed % 4, MOST)

    def test_few_steps(self):
        for seed in range(120):
            self.compare(2000 + seed, None, 5 + seed % 40)


class Heights(unittest.TestCase):
    def test_enough_and_lesser(self):
        high = 0
        for seed in range(150):
            maker = Maker(3000 + seed, 3)
            lines = [maker.line() for at in range(6)]
            for height in range(5):
                high += self.compare(lines, height)
        self.assertGreater(high, 100)

    def compare(self, lines, height):
        """The row on a stair of a height, up to the first line that wants more."""
        endless = Stair()
        stair = Stair(height=height)
        for line in lines:
            needed = self.needed(endless, line)
            self.assertEqual(needed, self.needed(stair, line))
            rows = traced(endless, line, most=MOST)
            expected = told(endless, line, most=MOST)
            ahead = state(stair)
            short = traced(stair, line, most=MOST)
            answer = told(stair, line, most=MOST)
            if answer.startswith("!high"):
                self.assertTrue(needed is None or needed > height)
                self.assertEqual(ahead, state(stair))
                return 1
            self.assertTrue(needed is None or needed <= height)
            self.assertEqual(expected, answer)
            self.assertEqual(rows, short)
            self.assertEqual(state(endless)[:4], state(stair)[:4])
        return 0

    def needed(self, stair, line):
        try:
            return stair.needed(line, most=MOST)
        except ValueError:
            return None


class WrittenOut(unittest.TestCase):
    """Points 4 and 16: readers written out change no answer."""

    def compare(self, seed, written, most):
        maker = Maker(seed, 1, without=("reader",))
        plain = Stair()
        other = Stair()
        for level, kind in written:
            other.write(level, kind)
        same = 0
        for at in range(6):
            line = maker.line()
            rows = traced(plain, line, most=MOST)
            expected = told(plain, line, most=MOST)
            others = traced(other, line, most=most)
            answer = told(other, line, most=most)
            if plain.reached > 1 or "!long" in expected + answer:
                return same
            with self.subTest(seed=seed, written=written, line=line):
                self.assertEqual(expected, answer)
                self.assertEqual(ground(rows), ground(others))
                self.assertEqual(held_words(plain), held_words(other))
            same += 1
        return same

    def test_each_kind_alone(self):
        for kind in READERS:
            for level in (1, 2, 3):
                same = sum([self.compare(4000 + seed, [(level, kind)], 200000) for seed in range(25)])
                self.assertGreater(same, 50)

    def test_all_kinds(self):
        for level in (1, 2):
            written = [(level, kind) for kind in READERS]
            same = sum([self.compare(5000 + seed, written, 200000) for seed in range(60)])
            self.assertGreater(same, 120)

    def test_heaps(self):
        written = [(level, kind) for level in (1, 2) for kind in READERS]
        same = sum([self.compare(6000 + seed, written, 60000) for seed in range(30)])
        self.assertGreater(same, 40)

    def test_heaps_by_chance(self):
        same = 0
        for seed in range(120):
            chance = Maker(seed, 0).chance
            pairs = [(level, kind) for level in (1, 2, 3, 4, 12) for kind in READERS]
            same += self.compare(7000 + seed, chance.sample(pairs, 1 + seed % 12), 60000)
        self.assertGreater(same, 200)


class TakenBack(unittest.TestCase):
    """Point 4: whatever is taken back, on whatever copy, a stair is as one that was told the lines left."""

    def told_all(self, kind, height, doings):
        stair = kind(height=height)
        for what, more in doings:
            self.do(stair, what, more)
        return stair

    def do(self, stair, what, more):
        """Whether it was answered."""
        try:
            if what == "write":
                stair.write(*more)
            else:
                stair.tell(more, most=MOST)
        except StairError:
            return False
        return True

    def one_turn(self, maker, stairs):
        """One of some stairs that go by turns does something; each is a list of class, stair, and what it was told."""
        chance = maker.chance
        one = chance.choice(stairs)
        kind, stair, doings = one
        way = chance.choice(("tell", "tell", "tell", "write", "back", "copy"))
        if way == "tell":
            line = maker.line()
            if self.do(stair, "tell", line):
                doings.append(("tell", line))
        elif way == "write":
            more = (chance.randrange(1, 4), chance.choice(READERS))
            if self.do(stair, "write", more):
                doings.append(("write", more))
        elif way == "back":
            many = chance.randrange(len(doings) + 1)
            stair.back(many=many)
            del doings[len(doings) - many:]
        elif len(stairs) < 5:
            stairs.append([kind, stair.copy(), list(doings)])

    def test_by_turns(self):
        for seed in range(40):
            maker = Maker(8000 + seed, 2)
            height = (None, 2, 3)[seed % 3]
            stairs = [[kind, kind(height=height), []] for kind in (Stair, Quick)]
            for at in range(25):
                self.one_turn(maker, stairs)
            for kind, stair, doings in stairs:
                self.assertIs(kind, type(stair))
                other = self.told_all(kind, height, doings)
                self.assertEqual(all_state(other), all_state(stair))
                self.assertEqual(frozen(other), frozen(stair))
                line = maker.line()
                self.assertEqual(traced(other, line, most=MOST), traced(stair, line, most=MOST))
                self.assertEqual(told(other, line, most=MOST), told(stair, line, most=MOST))

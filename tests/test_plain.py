"""The program compared with the plain reading in plain.py, on tests that are made by chance from a fixed seed."""

import os
import random
import sys
import unittest

sys.path.insert(0, os.path.dirname(os.path.abspath(__file__)))

from dice import CALLS, CLASSES, Dice  # noqa: E402
from plain import Plain, PlainRun, plain_suite, plain_test, pretty  # noqa: E402

from whatpasses.errors import BadSuite, BadTest  # noqa: E402
from whatpasses.families import Family  # noqa: E402
from whatpasses.parts import Part  # noqa: E402
from whatpasses.reading import Test  # noqa: E402
from whatpasses.runs import run, trace  # noqa: E402
from whatpasses.suites import Suite  # noqa: E402

FAMILY = Family([("Full", "Error"), ("Heap", "Full")])
ABOVE = {name: FAMILY.parent(name) for name in FAMILY.names()}
FIRST = {name: ABOVE[name] for name in CLASSES[:4]}
ROUNDS = int(os.environ.get("ROUNDS", "400"))


def refusal(make, *values):
    try:
        return make(*values)
    except (BadTest, BadSuite) as wrong:
        return wrong.at


class Readings(unittest.TestCase):
    def compare_test(self, text):
        plain, test = plain_test(text, ABOVE), refusal(Test.read, text, FAMILY)
        if isinstance(plain, int):
            self.assertEqual(test, plain, text)
            return False
        self.assertIsInstance(test, Test, text)
        self.assertEqual(str(test), "\n".join(plain.shown), text)
        self.assertEqual(test.name, plain.name)
        self.assertEqual(test.flags, tuple(sorted(plain.flags)))
        self.assertEqual(test.calls(), sorted(set(plain.calls)))
        self.assertEqual(test.checks(), plain.checks)
        self.assertEqual(len(test), len(plain.shown))
        self.assertEqual([test[line] for line in range(len(test))], plain.shown)
        self.assertEqual(Test.read(str(test), FAMILY), test)
        return True

    def test_texts(self):
        read = 0
        for seed in range(ROUNDS):
            dice = Dice(random.Random(seed))
            lines = dice.test("t", dice.pick((1, 2, 3, 3, 4)))
            read += self.compare_test(dice.spaced(lines))
            for _ in range(10):
                self.compare_test(dice.spaced(dice.spoiled(lines)))
            self.compare_test(dice.spaced(dice.spoiled(dice.spoiled(lines))))
        self.assertGreater(read, ROUNDS // 4)

    def test_suites(self):
        read = 0
        for seed in range(ROUNDS // 2):
            dice = Dice(random.Random(seed))
            heads = dice.pick((["error Full", "error Heap under Full"], ["error Heap", "error Full under Heap"],
                               ["error Full under Error", "error Heap", "error Over under Beyond"], []))
            lines = list(heads)
            for at in range(dice.random.randrange(4)):
                lines += dice.test("abcd"[at], 2)
            texts = [dice.spaced(lines), *[dice.spaced(dice.spoiled(lines)) for _ in range(8) if lines]]
            for text in texts:
                plain, suite = plain_suite(text, FIRST), refusal(Suite.read, text)
                if isinstance(plain, int):
                    self.assertEqual(suite, plain, text)
                    continue
                read += 1
                pairs, tests = plain
                self.assertIsInstance(suite, Suite, text)
                self.assertEqual(list(suite.family.declared), pairs)
                heads = [f"error {name}" + ("" if above == "Error" else f" under {above}") for name, above in pairs]
                self.assertEqual(str(suite), "\n".join(heads + [line for test in tests for line in test.shown]))
                self.assertEqual(suite.names(), [test.name for test in tests])
                self.assertEqual(Suite.read(str(suite)), suite)
        self.assertGreater(read, ROUNDS // 8)


class Runs(unittest.TestCase):
    def part(self, dice, ageing):
        calls = [pretty(call) for call in CALLS]
        entries = {}
        for call in calls:
            entries[(call,)] = dice.answer()
        if ageing:
            for _ in range(30):
                entries[tuple(dice.pick(calls) for _ in range(dice.random.randint(1, 3)))] = dice.answer()
        return Part(list(entries.items()), ageing=ageing)

    def compare(self, test, plain, part):
        expected = PlainRun(plain, ABOVE, lambda calls: part.answer(*calls))
        end = run(test, part)
        self.assertEqual((end.word, end.line, end.kind, end.cause), expected.end, str(test))
        self.assertEqual(end.rows, tuple(expected.rows), str(test))
        calls = expected.calls
        paths = [tuple(calls[:at + 1]) if part.ageing else (calls[at],) for at in range(len(calls))]
        self.assertEqual(end.paths, tuple(paths), str(test))
        self.assertEqual(bool(end), end.word == "passes")
        self.assertEqual(list(trace(test, part)), [(line, plain.shown[line]) for line in end.rows])
        return end.word

    def test_runs(self):
        words = []
        for seed in range(ROUNDS):
            dice = Dice(random.Random(seed))
            text = dice.spaced(dice.test("t", dice.pick((2, 3, 3, 4))))
            plain = plain_test(text, ABOVE)
            if not isinstance(plain, Plain):
                continue
            test = Test.read(text, FAMILY)
            for at in range(8):
                words.append(self.compare(test, plain, self.part(dice, at >= 5)))
        for word in ("passes", "fails", "skips"):
            self.assertGreater(words.count(word), ROUNDS // 10)


if __name__ == "__main__":
    unittest.main()

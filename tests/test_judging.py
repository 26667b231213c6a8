"""Judging (points 15, 18, 20, 21 and 25)."""

import os
import sys
import unittest

sys.path.insert(0, os.path.dirname(os.path.abspath(__file__)))

from brute import all_parts, check_verdict, weight_of  # noqa: E402

from whatpasses.errors import OtherFamily  # noqa: E402
from whatpasses.families import Family  # noqa: E402
from whatpasses.finding import Verdict, ways  # noqa: E402
from whatpasses.judging import forces, judge, wrong_parts  # noqa: E402
from whatpasses.parts import Part  # noqa: E402
from whatpasses.reading import Test  # noqa: E402
from whatpasses.runs import run  # noqa: E402
from whatpasses.suites import Suite  # noqa: E402

FAMILY = Family([("Full", None)])
NAMES = "abcdeghijklmnopqrstu"


def test(name, *rows, family=FAMILY):
    return Test.read("\n".join(["test " + name, *rows, "end"]), family)


ONE, TWO, THREE = test("a", "assert f() > 4"), test("b", "assert f() < 7 or g() == 1"), test("c", "assume f() != 5", "assert g() != 1")
TARGET = test("d", "assert f() == 6 or f() == 9")


class Judging(unittest.TestCase):
    def check(self, tests, target):
        suite = Suite(FAMILY, *tests)
        for ageing in (False, True):
            verdict = judge(suite, target, ageing=ageing)
            self.assertIsInstance(verdict, Verdict)
            demands = [*[(each, "passes", None) for each in tests], (target, "not passes", None)]
            found = check_verdict(self, demands, verdict, ageing)
            self.assertIs(forces(suite, target, ageing=ageing), not found)
            if found:
                self.assertIn(verdict.part, suite)
                self.assertFalse(run(target, verdict.part))
            self.wrong(suite, target, ageing)
            yield found

    def wrong(self, suite, target, ageing):
        """Compares the wrong parts with all parts, and with all ways."""
        tests = [*suite, target]
        best = {}
        for known, ends in all_parts(tests, ageing):
            if all(ends[:-1]) and not ends[-1]:
                way = tuple((end.rows, end.word) for end in ends)
                best[way] = min(best.get(way, 10 ** 9), weight_of(known))
        found = list(wrong_parts(suite, target, ageing=ageing))
        took = [tuple((run(each, part).rows, run(each, part).word) for each in tests) for part in found]
        self.assertEqual([(part.weight, way) for part, way in zip(found, took)],
                         sorted((weight, way) for way, weight in best.items()))
        every = [way for way, _ in ways(tests, ageing=ageing)]
        self.assertEqual(took, [way for way in every if way in best])
        for limit in (0, 1, len(found), len(found) + 1, 10 ** 30):
            some = list(wrong_parts(suite, target, ageing=ageing, limit=limit))
            self.assertEqual([part.weight for part in some], [part.weight for part in found[:limit]])

    def test_suites_of_none_one_and_several(self):
        self.assertEqual(list(self.check([], TARGET)), [True, True])
        self.assertEqual(list(self.check([ONE], TARGET)), [True, True])
        self.assertEqual(list(self.check([ONE, TWO, THREE], TARGET)), [False, False])
        self.assertEqual(list(self.check([ONE, THREE, TWO], test("d", "assert g() == 2", "assert f()"))), [True, True])
        self.assertEqual(list(self.check([], test("d", "pass"))), [False, False])
        self.assertEqual(list(self.check([], test("d", "skip"))), [True, True])
        self.assertEqual(list(self.check([test("a", "fail")], test("d", "fail"))), [False, False])

    def test_a_test_of_the_suite(self):
        for target in (ONE, TWO, THREE):
            self.assertEqual(list(self.check([ONE, TWO, THREE], target)), [False, False])

    def test_a_test_with_the_name_of_another_one(self):
        self.assertEqual(list(self.check([ONE], test("a", "assert f() > 3"))), [False, False])
        self.assertEqual(list(self.check([ONE], test("a", "assert f() > 5"))), [True, True])

    def test_skipping_is_not_passing(self):
        self.assertEqual(list(self.check([test("a", "assume f() == 1")], test("b", "assert f() == 1"))), [False, False])
        self.assertEqual(list(self.check([test("a", "assert f() == 1")], test("b", "assume f() == 2"))), [True, True])

    def test_the_examples(self):
        verdict = judge(Suite(FAMILY, ONE), TARGET)
        self.assertEqual(verdict.part, Part.steady({"f()": 5}))
        suite = Suite(FAMILY, test("a", "assert f() == 1", "assert f() == 2"))
        target = test("b", "fail")
        self.assertTrue(forces(suite, target))
        self.assertFalse(forces(suite, target, ageing=True))
        # What is forced for ageing parts is forced for steady ones.
        self.assertTrue(forces(suite, test("b", "assert f() == 1"), ageing=True))
        self.assertTrue(forces(suite, test("b", "assert f() == 1")))

    def test_other_families(self):
        for suite in (Suite(FAMILY), Suite(FAMILY, ONE), Suite(FAMILY, ONE, TWO, THREE)):
            for family in (Family.plain(), Family([("Full", "Failed")])):
                for function in (judge, forces):
                    for ageing in (False, True):
                        with self.assertRaises(OtherFamily) as caught:
                            function(suite, test("d", family=family), ageing=ageing)
                        self.assertEqual(caught.exception.at, len(suite))
        self.assertTrue(forces(Suite(FAMILY, ONE), test("d", "assert f() > 4", family=Family([("Full", "Error")]))))

    def test_by_name(self):
        suite = Suite(FAMILY, ONE)
        self.assertTrue(judge(suite=suite, test=TARGET, ageing=True))
        self.assertIs(forces(suite=suite, test=ONE, ageing=False), True)
        found = wrong_parts(suite=suite, test=TARGET, ageing=False, limit=1)
        self.assertIs(iter(found), found)
        self.assertEqual(list(found), [Part.steady({"f()": 5})])
        for function in (judge, forces, wrong_parts):
            with self.assertRaises(TypeError):
                function(suite, TARGET, True)


class LargeSuites(unittest.TestCase):
    def test_twenty_tests(self):
        tests = [test(NAMES[at], f"assert f({at % 6}) == {at} or len(f({at % 6})) > {at} or g({at % 5}) == {at}", f"if len(f({at % 6})) == 3", "pass", "end")
                 for at in range(19)]
        suite, target = Suite(FAMILY, *tests), test("y", "assert f(0) == 7 or g(1) == 2")
        for ageing in (False, True):
            verdict = judge(suite, target, ageing=ageing)
            self.assertIn(verdict.part, suite)
            found = list(wrong_parts(suite, target, ageing=ageing, limit=3))
            self.assertEqual(len(found), 3)
            self.assertEqual(found[0].weight, verdict.weight)
            self.assertEqual([part.weight for part in found], sorted(part.weight for part in found))
            for part in found:
                self.assertIn(part, suite)
                self.assertFalse(run(target, part))
            self.assertTrue(forces(suite, tests[12], ageing=ageing))


if __name__ == "__main__":
    unittest.main()

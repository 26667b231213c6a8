"""Comparing two suites (point 27)."""

import os
import random
import sys
import unittest

sys.path.insert(0, os.path.dirname(os.path.abspath(__file__)))

from brute import TooMany, all_parts, weight_of  # noqa: E402
from dice import ShortDice  # noqa: E402

from whatpasses.comparing import Comparison, compare  # noqa: E402
from whatpasses.errors import OtherFamily  # noqa: E402
from whatpasses.families import Family  # noqa: E402
from whatpasses.parts import Part  # noqa: E402
from whatpasses.reading import Test  # noqa: E402
from whatpasses.suites import Suite  # noqa: E402

FAMILY = Family([("Full", None), ("Heap", "Full")])
ROUNDS = int(os.environ.get("ROUNDS", "400"))
BACK = {"equal": "equal", "stricter": "looser", "looser": "stricter", "apart": "apart"}


def test(name, *rows, family=FAMILY):
    return Test.read("\n".join(["test " + name, *rows, "end"]), family)


def suite(*tests):
    return Suite(FAMILY, *tests)


def weight(part):
    return None if part is None else part.weight


class Comparing(unittest.TestCase):
    def word(self, one, other, ageing=False):
        """The word, both ways round, compared with what trying all parts says."""
        found = compare(one, other, ageing=ageing)
        self.assertIsInstance(found, Comparison)
        only_one, only_other = [], []
        for known, ends in all_parts([*one, *other], ageing, limit=4000):
            first, second = all(ends[:len(one)]), all(ends[len(one):])
            if first and not second:
                only_one.append(weight_of(known))
            if second and not first:
                only_other.append(weight_of(known))
        for part, weights, passes, fails in ((found.only_one, only_one, one, other), (found.only_other, only_other, other, one)):
            self.assertEqual(weight(part), min(weights) if weights else None)
            if weights:
                self.assertIs(part.ageing, ageing)
                self.assertIn(part, passes)
                self.assertNotIn(part, fails)
        word = "apart" if only_one and only_other else "looser" if only_one else "stricter" if only_other else "equal"
        self.assertEqual(found.word, word)
        self.assertIs(bool(found), word == "equal")
        back = compare(other, one, ageing=ageing)
        self.assertEqual(back.word, BACK[word])
        for mine, its in ((found.only_one, back.only_other), (found.only_other, back.only_one)):
            self.assertEqual(weight(mine), weight(its))
        return word

    def test_each_word(self):
        a, b, c = test("a", "assert f() > 4"), test("b", "assert f() > 5"), test("c", "assert f() < 9")
        d = test("d", "let x = f()", "assert x == 6 or x == 7 or x == 8")
        for ageing in (False, True):
            self.assertEqual(self.word(suite(b), suite(a), ageing), "stricter")
            self.assertEqual(self.word(suite(a), suite(b), ageing), "looser")
            self.assertEqual(self.word(suite(a), suite(c), ageing), "apart")
            self.assertEqual(self.word(suite(b, c), suite(d), ageing), "equal")
        found = compare(suite(a), suite(c))
        self.assertEqual((found.only_one, found.only_other), (Part.steady({"f()": 9}), Part.steady({"f()": 0})))
        self.assertEqual(compare(one=suite(b), other=suite(a), ageing=True).only_other, Part([(("f()",), 5)], ageing=True))

    def test_nearly_the_same_suite(self):
        a, b, c = test("a", "assert f() == 1 or g() == 2"), test("b", "if f() == 1", "assert g() > 3", "end"), test("c", "assert len(h()) == 2")
        for ageing in (False, True):
            self.assertEqual(self.word(suite(a, b), suite(a, b), ageing), "equal")
            self.assertEqual(self.word(suite(a, b, c), suite(c, b, a), ageing), "equal")
            self.assertEqual(self.word(suite(a, b, c), suite(a, c), ageing), "stricter")
            self.assertEqual(self.word(suite(a, b), suite(b, test("d"), a), ageing), "equal")
            self.assertEqual(self.word(suite(a, b), suite(a, b, test("d", "fail")), ageing), "looser")
            # Tests of the same name can be different ones in two suites.
            self.assertEqual(self.word(suite(a), suite(test("a", "assert f() == 1")), ageing), "looser")

    def test_suites_without_tests(self):
        empty, never = suite(), suite(test("a", "fail"))
        for ageing in (False, True):
            self.assertEqual(self.word(empty, empty, ageing), "equal")
            self.assertEqual(self.word(empty, suite(test("b", "pass")), ageing), "equal")
            self.assertEqual(self.word(empty, suite(test("b", "assert f()")), ageing), "looser")
            self.assertEqual(self.word(never, empty, ageing), "stricter")
            self.assertEqual(self.word(never, suite(test("b", "skip")), ageing), "equal")
            self.assertEqual(self.word(never, suite(test("b", "assert f() == [1]")), ageing), "stricter")

    def test_the_lightest_parts(self):
        one = suite(test("a", "assert f() is list"))
        other = suite(test("a", "assert len(f()) != 7"), test("b", "assert len(f()) != 5"), test("c", "assert len(f()) != 6"))
        found = compare(one, other)
        self.assertEqual((found.word, found.only_one, found.only_other), ("looser", Part.steady({"f()": [None] * 5}), None))

    def test_steady_and_ageing(self):
        one, other = suite(test("a", "assert f() == 1")), suite(test("a", "assert f() == 1", "assert f() == 1"))
        self.assertEqual(self.word(one, other), "equal")
        self.assertEqual(self.word(one, other, True), "looser")

    def test_other_families(self):
        for family in (Family.plain(), Family([("Full", None)]), Family([("Heap", None), ("Full", "Heap")])):
            for one, other in ((suite(), Suite(family)), (suite(test("a")), Suite(family, test("a", family=family)))):
                for pair in ((one, other), (other, one)):
                    for ageing in (False, True):
                        with self.assertRaises(OtherFamily) as caught:
                            compare(*pair, ageing=ageing)
                        self.assertEqual(caught.exception.at, -1)
        self.assertTrue(compare(suite(), Suite(Family(FAMILY.declared))))
        with self.assertRaises(TypeError):
            compare(suite(), suite(), True)

    def test_small_suites_by_chance(self):
        words = []
        for seed in range(ROUNDS // 2):
            dice = ShortDice(random.Random(seed), 1 + seed % 2)
            tests = [test("abcd"[at], *dice.rows()) for at in range(4)]
            one, other = suite(*tests[:dice.pick((1, 2))]), suite(*tests[dice.pick((1, 2, 2)):dice.pick((3, 3, 4))])
            for ageing in (False, True):
                try:
                    words.append(self.word(one, other, ageing))
                except TooMany:
                    continue
        self.assertEqual(set(words), set(BACK))

    def test_twenty_tests(self):
        tests = [test("abcdeghijk"[at], f"assert len(f({at % 6})) > {at} or g({at % 4}) == {at}") for at in range(10)]
        more = [test("abcdeghijk"[at], f"assert len(f({at % 6})) >= {at + (at < 9)} or g({at % 4}) == {at}") for at in range(10)]
        for ageing in (False, True):
            found = compare(suite(*tests), suite(*more), ageing=ageing)
            self.assertEqual(found.word, "stricter")
            self.assertIn(found.only_other, suite(*more))
            self.assertNotIn(found.only_other, suite(*tests))
            self.assertTrue(compare(suite(*tests), suite(*tests[::-1]), ageing=ageing))


if __name__ == "__main__":
    unittest.main()

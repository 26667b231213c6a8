"""Choosing the fewest tests (point 28)."""

import itertools
import os
import random
import sys
import unittest

sys.path.insert(0, os.path.dirname(os.path.abspath(__file__)))

from brute import TooMany, all_parts  # noqa: E402
from dice import ShortDice  # noqa: E402

from whatpasses.choosing import Choice, fewest, fewest_to_keep  # noqa: E402
from whatpasses.errors import OtherFamily  # noqa: E402
from whatpasses.families import Family  # noqa: E402
from whatpasses.parts import Part  # noqa: E402
from whatpasses.reading import Test  # noqa: E402
from whatpasses.runs import run  # noqa: E402
from whatpasses.suites import Suite  # noqa: E402

FAMILY = Family([("Full", None), ("Heap", "Full")])
OTHER = Family.plain()
ROUNDS = int(os.environ.get("ROUNDS", "400"))


def test(name, *rows, family=FAMILY):
    return Test.read("\n".join(["test " + name, *rows, "end"]), family)


def suite(*tests):
    return Suite(FAMILY, *tests)


class Base(unittest.TestCase):
    def check_shown(self, base, pool, wishes, choice, enough, ageing):
        """Whether the parts show that no other sets are enough."""
        self.assertIsInstance(choice.shown, tuple)
        for part in choice.shown:
            self.assertIsInstance(part, Part)
            self.assertIs(part.ageing, ageing)
            self.assertIn(part, base)
            self.assertNotIn(part, wishes)
        passed = [{each.name for each in pool if run(each, part)} for part in choice.shown]
        for size in range(len(choice.sets[0]) + 1 if choice.sets else len(pool) + 1):
            for names in itertools.combinations(pool.names(), size):
                if names not in enough:
                    self.assertTrue(any(set(names) <= own for own in passed), names)

    def choice(self, base, pool, wishes, ageing=False):
        """The choice, compared with what trying all parts says."""
        found = fewest(base, pool, wishes, ageing=ageing)
        self.assertIsInstance(found, Choice)
        bad = []
        for _, ends in all_parts([*base, *pool, *wishes], ageing, limit=4000):
            first, rest = ends[:len(base)], ends[len(base):]
            if all(first) and not all(rest[len(pool):]):
                bad.append({each.name for each, end in zip(pool, rest) if end})
        enough = [names for size in range(len(pool) + 1) for names in itertools.combinations(pool.names(), size)
                  if not any(set(names) <= own for own in bad)]
        sets = tuple(names for names in enough if len(names) == len(enough[0]))
        self.assertEqual(found.sets, sets)
        self.assertIs(bool(found), bool(sets))
        self.assertEqual(len(found), len(sets[0]) if sets else 0)
        self.check_shown(base, pool, wishes, found, enough, ageing)
        return found


class Choosing(Base):
    A, B, C = test("a", "assert f() > 4"), test("b", "assert f() < 9"), test("c", "assert f() != 7")
    D, E = test("d", "assert f() > 3 and f() != 6"), test("e", "assert f() > 5", "assert f() < 8")

    def test_one_least_set(self):
        found = self.choice(suite(), suite(self.A, self.B, self.C), suite(test("w", "assert f() > 2")))
        self.assertEqual(found.sets, (("a",),))
        found = self.choice(suite(self.A), suite(self.B, self.C, self.D), suite(test("w", "let x = f()", "assert x == 5 or x == 6 or x == 8")))
        self.assertEqual(found.sets, (("b", "c"),))
        self.assertEqual((len(found), bool(found)), (2, True))

    def test_several(self):
        wish = suite(test("w", "assert f() > 4"))
        found = self.choice(suite(), suite(self.E, self.B, self.A, self.D), wish)
        self.assertEqual(found.sets, (("e",), ("a",)))
        pool = suite(test("a", "assert f() != 1"), test("b", "assert f() != 2"), test("c", "assert f() != 2 and f() != 3"), test("d", "assert f() != 1 and f() != 3"))
        found = self.choice(suite(), pool, suite(test("w", "let x = f()", "assert x != 1 and x != 2 and x != 3")))
        self.assertEqual(found.sets, (("a", "c"), ("b", "d"), ("c", "d")))

    def test_none(self):
        found = self.choice(suite(), suite(self.A, self.B), suite(test("w", "assert f() == 6")))
        self.assertEqual((found.sets, len(found), bool(found)), ((), 0, False))
        self.assertGreater(len(found.shown), 0)
        found = self.choice(suite(), suite(), suite(self.A))
        self.assertEqual((found.sets, len(found), bool(found)), ((), 0, False))
        self.assertEqual(len(found.shown), 1)

    def test_the_base_alone(self):
        for base, wishes in ((suite(self.A), suite(test("w", "assert f() > 3"))), (suite(), suite()), (suite(), suite(test("w", "pass"))),
                             (suite(test("n", "fail")), suite(self.A)), (suite(test("n", "skip")), suite(test("w", "fail")))):
            for pool in (suite(), suite(self.B), suite(self.B, self.C)):
                for ageing in (False, True):
                    found = self.choice(base, pool, wishes, ageing)
                    self.assertEqual((found.sets, found.shown, len(found), bool(found)), (((),), (), 0, True))

    def test_suites_that_no_part_passes(self):
        never = test("n", "fail")
        self.assertEqual(self.choice(suite(), suite(self.A, never), suite(test("w", "fail"))).sets, (("n",),))
        self.assertEqual(self.choice(suite(), suite(self.A, self.B), suite(test("w", "fail"))).sets, ())
        high, low = test("a", "assert f() > 4"), test("b", "assert f() < 4")
        self.assertEqual(self.choice(suite(), suite(high, self.C, low), suite(test("w", "fail"))).sets, (("a", "b"),))

    def test_several_wishes(self):
        wishes = suite(test("v", "assert f() > 1"), test("w", "assert f() < 20"), test("x", "assert g() is list"))
        found = self.choice(suite(test("y", "assert len(g()) < 3")), suite(self.A, self.B, self.E), wishes)
        self.assertEqual(found.sets, (("e",),))

    def test_the_same_tests_in_several_suites(self):
        self.assertEqual(self.choice(suite(self.A), suite(self.A, self.B), suite(self.A, self.B)).sets, (("b",),))
        self.assertEqual(self.choice(suite(self.A, self.B), suite(self.A, self.B), suite(self.B, self.A)).sets, ((),))

    def test_steady_and_ageing(self):
        pool = suite(test("a", "assert f() == 1"), test("b", "call f()", "assert f() == 2"))
        wish = suite(test("w", "assert f() == 1", "assert f() == 2"))
        self.assertEqual(self.choice(suite(), pool, wish).sets, (("a", "b"),))
        self.assertEqual(self.choice(suite(), pool, wish, True).sets, (("a", "b"),))
        wish = suite(test("w", "assert f() == 1", "assert f() == 1"))
        self.assertEqual(self.choice(suite(), pool, wish).sets, (("a",),))
        self.assertEqual(self.choice(suite(), pool, wish, True).sets, ())

    def test_other_families(self):
        mine, its = suite(test("a")), Suite(OTHER, test("a", family=OTHER))
        for base, pool, wishes, at in ((mine, its, mine, 1), (mine, mine, its, 2), (mine, its, its, 1), (its, mine, mine, 1), (its, its, mine, 2),
                                       (suite(), Suite(OTHER), suite(), 1), (suite(), suite(), Suite(OTHER), 2), (its, mine, its, 1)):
            for ageing in (False, True):
                with self.assertRaises(OtherFamily) as caught:
                    fewest(base, pool, wishes, ageing=ageing)
                self.assertEqual(caught.exception.at, at)

    def test_by_name(self):
        found = fewest(base=suite(), pool=suite(self.A), wishes=suite(self.A), ageing=True)
        self.assertEqual(found.sets, (("a",),))
        self.assertEqual(fewest_to_keep(suite=suite(self.A), ageing=False).sets, (("a",),))
        with self.assertRaises(TypeError):
            fewest(suite(), suite(), suite(), True)
        with self.assertRaises(TypeError):
            fewest_to_keep(suite(), True)

    def test_small_suites_by_chance(self):
        lengths = []
        for seed in range(ROUNDS // 2):
            dice = ShortDice(random.Random(seed), 1 + seed % 2)
            tests = [test("abcdeg"[at], *dice.rows()) for at in range(6)]
            for ageing in (False, True):
                try:
                    found = self.choice(suite(*tests[:seed % 3 // 2]), suite(*tests[1:dice.pick((3, 4, 5))]), suite(tests[5]), ageing)
                except TooMany:
                    continue
                lengths.append(len(found) if found else None)
        self.assertLessEqual({None, 0, 1}, set(lengths))


class Keeping(Base):
    def keep(self, *tests, ageing=False):
        own = suite(*tests)
        found = fewest_to_keep(own, ageing=ageing)
        self.assertEqual(self.choice(suite(), own, own, ageing).sets, found.sets)
        self.assertTrue(found)
        return found.sets

    def test_what_is_forced_is_left_out(self):
        self.assertEqual(self.keep(), ((),))
        self.assertEqual(self.keep(test("a", "pass")), ((),))
        self.assertEqual(self.keep(test("a", "fail"), test("b", "skip")), (("a",), ("b",)))
        self.assertEqual(self.keep(Choosing.A, test("b", "assert f() > 2"), test("c", "assert f() < 9")), (("a", "c"),))

    def test_a_test_twice(self):
        rows = ("assert f() == 1",)
        self.assertEqual(self.keep(test("a", *rows), test("b", "assert g()"), test("c", *rows)), (("a", "b"), ("b", "c")))
        self.assertEqual(self.keep(test("a", *rows), test("b", *rows), test("c", *rows), ageing=True), (("a",), ("b",), ("c",)))

    def test_pools_of_eight(self):
        tests = [test("abcdeghi"[at], f"assert f({at % 4}) != {at % 4} or len(g()) > {at}") for at in range(8)]
        own = suite(*tests)
        for ageing in (False, True):
            found = fewest_to_keep(own, ageing=ageing)
            self.assertEqual(found.sets, (("e", "g", "h", "i"),))
            self.check_shown(suite(), own, own, found, found.sets, ageing)
        base = suite(test("n", "assert len(g()) == 6"))
        found = fewest(base, own, own)
        # The last two count the items; one of the others keeps each call from raising an error.
        self.assertEqual(found.sets, tuple(tuple(names) for names in ("abhi", "aghi", "behi", "eghi")))
        self.check_shown(base, own, own, found, found.sets, False)
        wishes = suite(*[test("w" + "abc"[at], f"assert f({at}) != {at} or len(g()) > 2") for at in range(3)], test("v", "assert g() != 9"))
        found = fewest(suite(), own, wishes)
        self.assertEqual(found.sets, ())
        self.check_shown(suite(), own, wishes, found, (), False)
        pool = suite(*[test("abcdeghi"[at], *[f"assert f() != {number}" for number in range(8) if number != at]) for at in range(8)])
        found = fewest_to_keep(pool)
        self.assertEqual(found.sets, tuple(itertools.combinations("abcdeghi", 2)))
        self.check_shown(suite(), pool, pool, found, found.sets, False)
        pool = suite(*[test("abcdeghi"[at], f"assert f() != {at}") for at in range(8)])
        self.assertEqual(fewest_to_keep(pool).sets, (tuple("abcdeghi"),))


if __name__ == "__main__":
    unittest.main()

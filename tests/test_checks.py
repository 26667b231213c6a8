"""Checks (points 21 and 26): their words, their examples and the listing."""

import os
import random
import sys
import unittest

sys.path.insert(0, os.path.dirname(os.path.abspath(__file__)))

from brute import TooMany, all_parts, weight_of  # noqa: E402
from dice import ShortDice  # noqa: E402

from whatpasses.checks import Check, all_checks, check, listing  # noqa: E402
from whatpasses.errors import NoCheck, NoTest  # noqa: E402
from whatpasses.families import Family  # noqa: E402
from whatpasses.parts import Part  # noqa: E402
from whatpasses.reading import Test  # noqa: E402
from whatpasses.runs import run  # noqa: E402
from whatpasses.suites import Suite  # noqa: E402

FAMILY = Family([("Full", None), ("Heap", "Full")])
ROUNDS = int(os.environ.get("ROUNDS", "400"))


def test(name, *rows, family=FAMILY):
    return Test.read("\n".join(["test " + name, *rows, "end"]), family)


def executes(one, line, part):
    """Whether the test executes a line, which may stand in a `for` block, and whether the check there bites."""
    skipped = run(one.stopped(line), part)
    bitten = run(one.biting(line), part)
    return (skipped.word, skipped.line) == ("skips", line), (bitten.word, bitten.line) == ("skips", line)


class Base(unittest.TestCase):
    def words(self, tests, ageing=False):
        """The words of all checks, compared with what trying all parts says."""
        suite = Suite(FAMILY, *tests)
        words = []
        for one in all_checks(suite, ageing=ageing):
            self.assertIsInstance(one, Check)
            words.append(one.word)
            self.assertIs(bool(one), one.word == "needed")
            self.compare(suite, one, ageing)
            again = check(suite, one.name, one.line, ageing=ageing)
            self.assertEqual((again.name, again.line, again.word), (one.name, one.line, one.word))
            self.assertEqual(again.example, one.example)
        places = [(each.name, line) for each in tests for line in each.checks()]
        self.assertEqual([(one.name, one.line) for one in all_checks(suite, ageing=ageing)], places)
        return words

    def compare(self, suite, one, ageing):
        mine = suite.named(one.name)
        soft = mine.softened(one.line)
        # One list of tests, so that each part is tried by all of them.
        every = [*suite, mine.stopped(one.line), mine.biting(one.line), soft]
        reached, bitten, parted = [], [], []
        for known, ends in all_parts(every, ageing, limit=4000):
            stop, bite, softened = ends[-3:]
            if (stop.word, stop.line) == ("skips", one.line):
                reached.append(weight_of(known))
            if (bite.word, bite.line) == ("skips", one.line):
                bitten.append(weight_of(known))
            before = all(ends[:-3])
            after = all(softened if each is mine else end for each, end in zip(suite, ends[:-3]))
            if before != after:
                parted.append(weight_of(known))
        word = "dead" if not reached else "true" if not bitten else "needed" if parted else "idle"
        self.assertEqual(one.word, word, (str(suite), one.name, one.line, ageing))
        if word == "dead":
            self.assertIsNone(one.example)
            return
        self.assertIsInstance(one.example, Part)
        self.assertIs(one.example.ageing, ageing)
        self.assertEqual(one.example.weight, min({"true": reached, "idle": bitten, "needed": parted}[word]))
        stop, bite = executes(mine, one.line, one.example)
        if word == "needed":
            other = Suite(FAMILY, *[soft if each is mine else each for each in suite])
            self.assertNotEqual(one.example in suite, one.example in other)
        else:
            self.assertTrue(stop if word == "true" else bite)


class Words(Base):
    def test_each_word(self):
        for ageing in (False, True):
            self.assertEqual(self.words([test("a", "return", "assert f() == 1", "fail")], ageing), ["dead", "dead"])
            self.assertEqual(self.words([test("a", "assert on p or not on p", 'assert (f() == 1, "a")')], ageing), ["true", "true"])
            self.assertEqual(self.words([test("a", "assert f() == 1"), test("b", "let x = f()", "assert x < 2 and x > 0")], ageing), ["idle", "idle"])
            self.assertEqual(self.words([test("a", "assert f() == 1"), test("b", "assert f() < 2")], ageing), ["needed", "idle"])

    def test_the_first_word_that_fits(self):
        # Nothing comes there, so it is dead, although it never bites either.
        self.assertEqual(self.words([test("a", "skip", 'assert (f(), "a")')]), ["dead"])
        self.assertEqual(self.words([test("a", "fail", 'assert (f(), "a")', "fail")]), ["idle", "dead", "dead"])

    def test_in_blocks(self):
        self.assertEqual(self.words([test("a", "raises Failed", "assert f() == 1", "end")]), ["needed"])
        self.assertEqual(self.words([test("a", "raises Failed", "fail", "end")]), ["needed"])
        self.assertEqual(self.words([test("a", "try", "assert f() == 1", "except Failed", "end")]), ["idle"])
        self.assertEqual(self.words([test("a", "try", "call f()", "except Full", "fail", "else", "assert f() is none", "end")]), ["needed", "needed"])
        self.assertEqual(self.words([test("a", "if f() == 1", "fail", "else", "assert f() != 1", "end")]), ["needed", "true"])
        self.assertEqual(self.words([test("a", "if f() == 1", "fail", "else", "assert f() != 1", "end")], True), ["needed", "needed"])
        self.assertEqual(self.words([test("a", "raises Misuse", "assert f() < 1", "end")]), ["idle"])

    def test_in_loops(self):
        self.assertEqual(self.words([test("a", "for x in f()", "assert x > 4", "end")]), ["needed"])
        self.assertEqual(self.words([test("a", "for x in f()", "return", "assert x > 4", "end")]), ["dead"])
        self.assertEqual(self.words([test("a", "for x in f()", "if x == 3", "fail", "end", "assert x != 3", "end")]), ["idle", "true"])
        self.assertEqual(self.words([test("a", "for x in f()", "assert (x > 4, \"a\")", "end")]), ["true"])

    def test_beside_flags(self):
        self.assertEqual(self.words([test("a", "if f() == 1", "set p", "end", "assert not on p")]), ["needed"])
        self.assertEqual(self.words([test("a", "set p", "assert on p", "clear p", "assert not on p", "if on p", "fail", "end")]), ["true", "true", "dead"])

    def test_errors_are_no_bites(self):
        # The condition is true or raises Misuse, which is no bite.
        self.assertEqual(self.words([test("a", "assume f() > 3", "assert f() > 3")]), ["true"])
        self.assertEqual(self.words([test("a", "let x = f()", "assert x < 3 or x >= 3")]), ["true"])

    def test_the_examples(self):
        one = check(Suite(FAMILY, test("a", "if f() == [1, 2]", "assert on p or not on p", "end")), "a", 2)
        self.assertEqual((one.name, one.line, one.word, one.example), ("a", 2, "true", Part.steady({"f()": [1, 2]})))
        one = check(Suite(FAMILY, test("a", "assert f() != 1", "assert f() is none")), "a", 1)
        self.assertEqual((one.word, one.example.weight), ("idle", 1))
        one = check(Suite(FAMILY, test("a", "assert f() != 1")), name="a", line=1, ageing=True)
        self.assertEqual((one.word, one.example), ("needed", Part([(("f()",), 1)], ageing=True)))
        # Softened, the suite is passed by more parts or by others.
        one = check(Suite(FAMILY, test("a", "raises Failed", "assert f() != 1", "end")), "a", 2)
        self.assertEqual((one.word, one.example), ("needed", Part.steady({"f()": 1})))

    def test_the_lighter_one_of_two_examples(self):
        for more, less in (("assert h() == [1, 1]", "assert g() == 2"), ("assert h() == 2", "assert g() == [1, 1]")):
            # As it is, the suite is passed by way of h(), softened by way of g().
            one = test("a", "try", "assert f() == 1", "except Failed", more, "else", less, "end")
            self.assertEqual(self.words([one]), ["needed", "needed", "needed"])
            self.assertEqual(check(Suite(FAMILY, one), "a", 2).example.weight, 1)

    def test_steady_and_ageing(self):
        tests = [test("a", "assert f() == 1", "assert f() == 1"), test("b", "assert f() != 2")]
        self.assertEqual(self.words(tests), ["idle", "true", "idle"])
        self.assertEqual(self.words(tests, True), ["needed", "needed", "idle"])

    def test_small_tests_by_chance(self):
        seen = []
        for seed in range(ROUNDS // 4):
            dice = ShortDice(random.Random(seed), 1 + seed % 2)
            tests = []
            while len(tests) < dice.pick((1, 2)):
                tests.append(test("ab"[len(tests)], *dice.rows()))
            for ageing in (False, True):
                try:
                    seen += self.words(tests, ageing)
                except TooMany:
                    continue
        for word in ("dead", "true", "idle", "needed"):
            self.assertIn(word, seen)


class Errors(unittest.TestCase):
    SUITE = Suite(FAMILY, test("a", "assert f() == 1", "pass", "if f()", "fail", "end"), test("b", 'assert (f(), "")'))

    def test_names(self):
        for name in ("", "c", "A", "test", None, 0, True, ["a"], ("a",), [["a"]], 10 ** 39):
            # A wrong line counts only behind the name.
            for line in (1, 2, None, "x"):
                for ageing in (False, True):
                    with self.assertRaises(NoTest) as caught:
                        check(self.SUITE, name, line, ageing=ageing)
                    self.assertIs(caught.exception.name, name)
        with self.assertRaises(NoTest):
            check(Suite(FAMILY), "a", 1)

    def test_lines(self):
        for name, lines in (("a", (0, 2, 3, 5, 6, 7)), ("b", (0, 2, 3, 4))):
            for line in (*lines, -1, 10 ** 39, None, True, False, "1", [1], (1,), [[]], ""):
                with self.assertRaises(NoCheck) as caught:
                    check(self.SUITE, name, line)
                self.assertIs(caught.exception.line, line)

    def test_by_position_and_by_name(self):
        self.assertEqual(check(suite=self.SUITE, name="b", line=1, ageing=True).word, "true")
        for function in (check, all_checks, listing):
            with self.assertRaises(TypeError):
                function(self.SUITE, *["b", 1] * (function is check), True)


class Listing(unittest.TestCase):
    def test_no_checks(self):
        for suite in (Suite(FAMILY), Suite(FAMILY, test("a", "pass", "assume f()"))):
            self.assertEqual((all_checks(suite), listing(suite)), ([], []))

    def test_columns(self):
        rows = ["pass"] * 8
        suite = Suite(
            FAMILY, test("a", "assert f() == 1", "return", "fail"), test("abcdefghijkl", *rows, "assert len(g()) != 12", "assert (g(), \"a\")"),
            test("mid", *rows, "pass", "assert g() is list"),
        )
        self.assertEqual(listing(suite), [
            "a              1 needed    1",
            "a              3 dead      -",
            "abcdefghijkl   9 needed   14",
            "abcdefghijkl  10 true      1",
            "mid           10 idle      0",
        ])
        for line in listing(suite):
            self.assertEqual(len(line), 12 + 4 + 1 + 6 + 5)

    def test_weights_of_two_figures(self):
        suite = Suite(FAMILY, test("a", "assert len(g()) != 12", "assert len(h()) < 20 or len(h()) > 20"), test("b", "assert g() is list", "assert h() is list"))
        self.assertEqual(listing(suite), [
            "a              1 needed   14", "a              2 needed   22", "b              1 idle      0", "b              2 idle      1",
        ])
        self.assertEqual(listing(suite=suite, ageing=False), listing(suite))

    def test_ageing(self):
        suite = Suite(FAMILY, test("a", "assert f() == 1", "assert f() == 1"))
        self.assertEqual(listing(suite), ["a              1 idle      0", "a              2 true      1"])
        self.assertEqual(listing(suite, ageing=True), ["a              1 needed    1", "a              2 needed    1"])


if __name__ == "__main__":
    unittest.main()

"""Desks and deeds (point 29)."""

import unittest

from whatpasses import desks
from whatpasses.desks import Add, Deed, Desk, Drop, Soften, Swap
from whatpasses.errors import BadDeed, BadSuite, NoCheck, NothingToUndo, NoTest
from whatpasses.families import Family
from whatpasses.reading import Test
from whatpasses.suites import Suite

FAMILY = Family([("Full", None)])
OTHER = Family.plain()
NO_NAMES = ("", "d", "A", "a b", "a\nb", None, 0, True, ["a"], ("a",), [["a", None]], 10 ** 39)
NO_LINES = (0, 2, 4, 5, -1, 10 ** 39, None, True, False, "1", [1], (1,), [[]], "")


def test(name, *rows, family=FAMILY):
    return Test.read("\n".join(["test " + name, *rows, "end"]), family)


A, B, C = test("a", "assert f() == 1", "pass", "fail"), test("b", 'assert (f(), "x")'), test("c", "raises Full", "call f()", "end")
SUITE = Suite(FAMILY, A, B, C)


class Deeds(unittest.TestCase):
    def done(self, deed, *tests):
        before = str(SUITE)
        self.assertIsInstance(deed, Deed)
        found = deed.done(SUITE)
        self.assertIsInstance(found, Suite)
        self.assertEqual(found, Suite(FAMILY, *tests))
        self.assertEqual((str(SUITE), SUITE.tests), (before, (A, B, C)))
        self.assertEqual(deed.done(suite=SUITE), found)

    def refused(self, deed, error, field, value, suite=SUITE):
        with self.assertRaises(error) as caught:
            deed.done(suite)
        self.assertIs(type(caught.exception), error)
        found = getattr(caught.exception, field)
        if field == "at":
            self.assertEqual(found, value)
        else:
            self.assertIs(found, value)
        self.assertEqual(SUITE.tests, (A, B, C))

    def test_classes(self):
        for one in (Add, Drop, Soften):
            self.assertEqual(one.__bases__, (Deed,))
        self.assertEqual(Swap.__bases__, (Drop,))
        self.assertEqual(Deed.__bases__, (object,))
        for one in (Deed, Add, Drop, Soften, Swap):
            self.assertEqual(one.__module__, desks.__name__)
            self.assertLessEqual({"done", "__str__"}, set(vars(one)))

    def test_add(self):
        new = test("d")
        self.done(Add(new), A, B, C, new)
        self.assertEqual(Add(new).done(Suite(FAMILY)), Suite(FAMILY, new))
        self.refused(Add(test("d", family=OTHER)), BadSuite, "at", 3)
        self.refused(Add(test("b")), BadSuite, "at", 3)
        self.refused(Add(B), BadSuite, "at", 3)
        self.refused(Add(test("d", family=OTHER)), BadSuite, "at", 0, Suite(FAMILY))

    def test_drop(self):
        self.done(Drop("a"), B, C)
        self.done(Drop("b"), A, C)
        self.done(Drop(name="c"), A, B)
        for name in NO_NAMES:
            self.refused(Drop(name), NoTest, "name", name)
        self.refused(Drop("a"), NoTest, "name", "a", Suite(FAMILY))

    def test_soften(self):
        self.done(Soften("a", 1), test("a", 'assert (f() == 1, "")', "pass", "fail"), B, C)
        self.done(Soften("a", 3), test("a", "assert f() == 1", "pass", "pass"), B, C)
        self.done(Soften(name="b", line=1), A, B, C)
        for name in NO_NAMES:
            # The name is asked for first.
            for line in (1, *NO_LINES):
                self.refused(Soften(name, line), NoTest, "name", name)
        for line in NO_LINES:
            self.refused(Soften("a", line), NoCheck, "line", line)
        for line in (1, 2, 3):
            self.refused(Soften("c", line), NoCheck, "line", line)

    def test_swap(self):
        new = test("d", "skip")
        self.done(Swap("a", new), new, B, C)
        self.done(Swap("b", new), A, new, C)
        self.done(Swap(name="c", test=test("c")), A, B, test("c"))
        self.done(Swap("b", B), A, B, C)
        for name in NO_NAMES:
            self.refused(Swap(name, new), NoTest, "name", name)
            self.refused(Swap(name, test("b", family=OTHER)), NoTest, "name", name)
        self.refused(Swap("a", test("d", family=OTHER)), BadSuite, "at", 0)
        self.refused(Swap("c", test("d", family=OTHER)), BadSuite, "at", 2)
        # The second one of two tests of the same name is the one that cannot stand there.
        self.refused(Swap("a", test("c")), BadSuite, "at", 2)
        self.refused(Swap("c", test("a")), BadSuite, "at", 2)
        self.refused(Swap("b", test("a")), BadSuite, "at", 1)

    def test_texts(self):
        self.assertEqual(str(Add(A)), "add a")
        self.assertEqual(str(Drop("abc")), "drop abc")
        self.assertEqual(str(Swap("a", test("new"))), "swap a for new")
        self.assertEqual(str(Soften("a", 12)), "soften a 12")
        for value in (*NO_NAMES, *NO_LINES):
            self.assertEqual(str(Drop(value)), "drop " + str(value))
            self.assertEqual(str(Swap(value, B)), "swap " + str(value) + " for b")
            self.assertEqual(str(Soften(value, value)), "soften " + str(value) + " " + str(value))
            self.assertEqual(str(Soften("a", value)), "soften a " + str(value))

    def test_values_are_kept(self):
        for value in (*NO_NAMES, *NO_LINES):
            self.assertIs(Drop(value).name, value)
            self.assertIs(Swap(value, A).name, value)
            self.assertIs(Soften(value, 1).name, value)
            self.assertIs(Soften("a", value).line, value)
        self.assertIs(Add(A).test, A)
        self.assertIs(Swap("a", B).test, B)
        name = ["a"]
        deed = Drop(name)
        name.append("b")
        self.assertEqual(str(deed), "drop ['a', 'b']")


class Desks(unittest.TestCase):
    def refused(self, desk, at, error, *deeds):
        suite, depth = desk.suite, desk.depth
        for do in (desk.run, desk.trial):
            with self.assertRaises(BadDeed) as caught:
                do(*deeds)
            self.assertEqual(caught.exception.at, at)
            self.assertIs(type(caught.exception.__cause__), error)
            self.assertIs(desk.suite, suite)
            self.assertEqual(desk.depth, depth)
        return caught.exception.__cause__

    def test_a_new_desk(self):
        desk = Desk(SUITE)
        self.assertEqual((desk.suite, desk.depth), (SUITE, 0))
        with self.assertRaises(NothingToUndo):
            desk.undo()
        self.assertEqual((desk.suite, desk.depth), (SUITE, 0))
        for name in ("suite", "depth"):
            self.assertIsInstance(vars(Desk)[name], property)
        self.assertEqual(Desk(suite=SUITE).suite, SUITE)

    def test_runs(self):
        desk, new = Desk(SUITE), test("d")
        self.assertIsNone(desk.run())
        self.assertEqual((desk.suite, desk.depth), (SUITE, 1))
        self.assertIsNone(desk.run(Drop("b")))
        self.assertEqual((desk.suite, desk.depth), (Suite(FAMILY, A, C), 2))
        desk.run(Add(new), Drop("a"), Swap("c", B), Soften("b", 1))
        self.assertEqual((desk.suite, desk.depth), (Suite(FAMILY, B, new), 3))
        self.assertIsNone(desk.undo())
        self.assertEqual((desk.suite, desk.depth), (Suite(FAMILY, A, C), 2))
        desk.run(Drop("a"), Drop("c"))
        self.assertEqual((desk.suite, desk.depth), (Suite(FAMILY), 3))
        for suite in (Suite(FAMILY, A, C), SUITE, SUITE):
            desk.undo()
            self.assertEqual(desk.suite, suite)
        self.assertEqual(desk.depth, 0)
        for _ in range(2):
            with self.assertRaises(NothingToUndo):
                desk.undo()
        desk.run(Add(new))
        self.assertEqual((desk.suite, desk.depth), (Suite(FAMILY, A, B, C, new), 1))

    def test_refused_deeds(self):
        desk = Desk(SUITE)
        desk.run(Add(test("d")))
        cause = self.refused(desk, 0, NoTest, Drop("x"))
        self.assertEqual(cause.name, "x")
        cause = self.refused(desk, 2, NoCheck, Drop("b"), Add(test("e")), Soften("a", 2), Drop("x"))
        self.assertEqual(cause.line, 2)
        cause = self.refused(desk, 1, BadSuite, Swap("c", test("e")), Add(test("e")))
        self.assertEqual(cause.at, 4)
        cause = self.refused(desk, 3, BadSuite, Drop("a"), Drop("b"), Drop("c"), Swap("d", test("d", family=OTHER)))
        self.assertEqual(cause.at, 0)
        self.assertEqual(desk.depth, 1)
        desk.undo()
        self.assertEqual(desk.suite, SUITE)

    def test_deeds_that_the_deeds_before_make_right_or_wrong(self):
        desk = Desk(SUITE)
        desk.run(Drop("a"), Add(test("a", "fail")), Soften("a", 1), Swap("a", test("e", "fail")), Soften("e", 1))
        self.assertEqual(desk.suite, Suite(FAMILY, B, C, test("e", "pass")))
        desk.undo()
        self.refused(desk, 1, NoTest, Drop("a"), Drop("a"))
        self.refused(desk, 1, NoTest, Swap("a", test("e")), Soften("a", 1))
        self.refused(desk, 1, NoCheck, Soften("a", 3), Soften("a", 3))
        self.refused(desk, 1, BadSuite, Add(test("e")), Swap("a", test("e")))
        self.refused(desk, 0, BadSuite, Add(test("a")), Drop("a"))
        self.assertEqual(desk.trial(Soften("a", 1), Soften("a", 1)).named("a")[1], '  assert (f() == 1, "")')

    def test_trials(self):
        desk = Desk(SUITE)
        self.assertEqual(desk.trial(), SUITE)
        desk.run(Drop("a"))
        for _ in range(2):
            self.assertEqual(desk.trial(Drop("b")), Suite(FAMILY, C))
            self.assertEqual((desk.suite, desk.depth), (Suite(FAMILY, B, C), 1))
        desk.run(Drop("c"))
        self.assertEqual(desk.trial(Add(A)), Suite(FAMILY, B, A))
        desk.undo()
        desk.undo()
        self.assertEqual((desk.suite, desk.depth), (SUITE, 0))

    def test_two_desks(self):
        one, other = Desk(SUITE), Desk(SUITE)
        deed = Drop("a")
        one.run(deed)
        self.assertEqual((other.suite, other.depth), (SUITE, 0))
        other.run(deed, Drop("b"))
        self.assertEqual((one.suite, other.suite), (Suite(FAMILY, B, C), Suite(FAMILY, C)))
        one.undo()
        self.assertEqual((one.depth, other.depth), (0, 1))
        self.assertEqual(other.suite, Suite(FAMILY, C))

    def test_many_runs(self):
        desk = Desk(SUITE)
        for number in range(500):
            desk.run(Swap(desk.suite[0].name, test("ax"[number % 2], "pass")))
        self.assertEqual(desk.depth, 500)
        for _ in range(500):
            desk.undo()
        self.assertEqual((desk.suite, desk.depth), (SUITE, 0))


if __name__ == "__main__":
    unittest.main()

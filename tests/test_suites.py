"""Suites (points 7, 9 and 15)."""

import unittest

from whatpasses.errors import BadSuite, NoTest
from whatpasses.families import Family
from whatpasses.parts import Part
from whatpasses.reading import Test
from whatpasses.suites import Suite

PLAIN = Family.plain()
FULL = Family([("Full", None), ("Heap", "Full")])
TEXT = """error Full
error Heap under Full
error Low under Beyond
test first
  raises Heap from Low
    call f()
  end
end
test second
  assert f() == 1 and g(1, "a")[0] < 2
end"""


def test(name, *rows, family=PLAIN):
    return Test.read("\n".join(["test " + name, *rows, "end"]), family)


class Base(unittest.TestCase):
    def refuse(self, at, make, *values):
        with self.assertRaises(BadSuite, msg=values) as caught:
            make(*values)
        self.assertEqual(caught.exception.at, at, values)
        self.assertNotIsInstance(caught.exception.at, bool)

    def refuse_text(self, line, *lines):
        self.refuse(line, Suite.read, "\n".join(lines))


class Making(Base):
    def test_no_tests(self):
        suite = Suite(PLAIN)
        self.assertEqual((suite.family, suite.tests, suite.names(), len(suite), list(suite), str(suite)), (PLAIN, (), [], 0, [], ""))
        self.assertEqual(str(Suite(family=FULL)), "error Full\nerror Heap under Full")

    def test_tests(self):
        a, b, c = test("a"), test("b", "pass"), test("c")
        suite = Suite(PLAIN, b, a, c)
        self.assertIsInstance(suite.tests, tuple)
        self.assertEqual(suite.tests, (b, a, c))
        self.assertEqual(suite.names(), ["b", "a", "c"])
        self.assertEqual(len(suite), 3)
        self.assertEqual([suite[at] for at in range(3)], [b, a, c])
        self.assertEqual(list(suite), [b, a, c])
        self.assertEqual([each.name for each in suite], ["b", "a", "c"])
        suite.names().append("d")
        self.assertEqual(suite.names(), ["b", "a", "c"])

    def test_equal_names_and_other_families(self):
        a, b, other, again = test("a"), test("b"), test("b", family=FULL), test("a", "pass")
        self.refuse(1, Suite, PLAIN, a, a)
        self.refuse(2, Suite, PLAIN, a, b, again, b)
        self.refuse(0, Suite, PLAIN, other)
        self.refuse(1, Suite, PLAIN, a, other, a)
        self.refuse(0, Suite, FULL, a, a)
        self.refuse(1, Suite, FULL, other, b)
        self.refuse(0, Suite, Family([("Heap", None), ("Full", None)]), other)
        self.assertEqual(Suite(Family(FULL.declared), other).names(), ["b"])
        self.assertEqual(Suite(PLAIN, a, b, test("aa")).names(), ["a", "b", "aa"])

    def test_named(self):
        a, b = test("a"), test("b")
        suite = Suite(PLAIN, a, b)
        self.assertEqual(suite.named("b"), b)
        self.assertEqual(suite.named(name="a"), a)
        for name in ("c", "", "A", "a ", "ab", None, 0, 1, True, ["a"], ("a",), [], 10 ** 39):
            with self.assertRaises(NoTest) as caught:
                suite.named(name)
            self.assertEqual(caught.exception.name, name)
        with self.assertRaises(NoTest):
            Suite(PLAIN).named("a")

    def test_equality(self):
        a, b = test("a"), test("b")
        self.assertTrue(Suite(PLAIN, a, b) == Suite(Family([]), test("a"), b) and not Suite(PLAIN) != Suite(PLAIN))
        for other in (Suite(PLAIN, b, a), Suite(PLAIN, a), Suite(PLAIN, a, test("b", "pass")), Suite(PLAIN), None, (a, b), [a, b],
                      str(Suite(PLAIN, a, b)), Suite(FULL, test("a", family=FULL), test("b", family=FULL)), 2):
            self.assertTrue(Suite(PLAIN, a, b) != other and not Suite(PLAIN, a, b) == other)
        self.assertNotEqual(Suite(PLAIN), Suite(FULL))


class Reading(Base):
    def test_no_strings(self):
        for thing in (None, 0, True, b"", [], ["test t", "end"], (), 10 ** 39):
            self.refuse(-1, Suite.read, thing)

    def test_the_empty_text(self):
        self.assertEqual(Suite.read(""), Suite(PLAIN))
        self.assertEqual(Suite.read(text=""), Suite(Family([])))
        for text in (" ", "\n", "\n\n"):
            self.refuse(0, Suite.read, text)

    def test_a_suite(self):
        suite = Suite.read(TEXT)
        self.assertEqual(suite.family, Family([("Full", None), ("Heap", "Full"), ("Low", "Beyond")]))
        self.assertEqual(suite.names(), ["first", "second"])
        self.assertEqual(suite[1], test("second", 'assert f() == 1 and g(1, "a")[0] < 2', family=suite.family))
        self.assertEqual(str(suite), TEXT)
        self.assertEqual(Suite.read(str(suite)), suite)
        self.assertEqual(suite.tests[0].family, suite.family)

    def test_written_form(self):
        text = 'error  Full under   Error\n error Heap under Full\ntest a\ncall f( 1,"a" )\nend\n  test b\nif f( )\nelse\nend\n end'
        form = 'error Full\nerror Heap under Full\ntest a\n  call f(1, "a")\nend\ntest b\n  if f()\n  else\n  end\nend'
        self.assertEqual(str(Suite.read(text)), form)
        self.assertEqual(Suite.read(text), Suite.read(form))
        self.assertEqual(Suite.read("error Full under Error"), Suite.read("error Full"))
        self.assertEqual(str(Suite.read("error Full")), "error Full")
        self.assertEqual(str(Suite.read("test t\nend")), "test t\nend")

    def test_error_lines(self):
        for line, name, above in (("error A", "A", "Error"), ("error Abcdefghijkl", "Abcdefghijkl", "Error"),
                                  ("error Full under Beyond", "Full", "Beyond"), ("error AB under Failed", "AB", "Failed"),
                                  ("error Full under Low", "Full", "Low"), ("error  Full  under  Error", "Full", "Error")):
            suite = Suite.read("error Low\n" + line + "\ntest t\nraises " + name + "\nend\nend")
            self.assertEqual(suite.family.declared, (("Low", "Error"), (name, above)))

    def test_wrong_error_lines(self):
        for line in ("error", "error full", "error Abcdefghijklm", "error Low", "error Error", "error Failed", "error Misuse",
                     "error Beyond", "error Full under", "error Full Error", "error Full under Other", "error Full under Full",
                     "error Full under full", "error Full under Error Error", "error Full under Error under Error", "error under Error",
                     "error Full, Heap", "error Full from Error", "error (Full)", "error 1", 'error "Full"', "error none", "error Full1",
                     "error Full under none", "errors Full", "Error Full", "error Full!", "error Fu ll", "errorFull", "Full under Error",
                     "error test", "error Full test", "error Full = Error", "error Full\t", "error Full under \"Error\"", "under Error"):
            for more in ((), ("test t", "end"), ("error Low", "!")):
                self.refuse_text(1, "error Low", line, *more)
                if line != "error Low":
                    self.refuse_text(0, line, *more)
        self.refuse_text(0, "error Heap under Full", "error Full")
        self.refuse_text(2, "error Full", "error Heap", "error Full under Heap")
        self.assertEqual(len(Suite.read("error Full\nerror Heap under Full\nerror Low under Heap").family), 7)

    def test_error_lines_behind_a_test(self):
        self.refuse_text(2, "test t", "end", "error Full")
        self.refuse_text(5, "error Low", "test t", "end", "test s", "end", "error Full under Low", "test u", "end")
        self.refuse_text(1, "test t", "error Full", "end")

    def test_lines_that_begin_no_test(self):
        for line in ("", " ", "pass", "end", "tests t", "test", "test 1", "test T", "test error", "test t t", "!", "else", "call f()"):
            # One empty line is the empty text.
            if line:
                self.refuse_text(0, line)
            self.refuse_text(0, line, "test t", "end")
            self.refuse_text(1, "error Full", line, "error Heap")
            self.refuse_text(2, "test a", "end", line)
            self.refuse_text(6, "error Full", "test a", "pass", "end", "test b", "end", line, "end")
        self.refuse_text(2, "test t", "end", "")

    def test_lines_that_cannot_stand_in_a_test(self):
        for row in ("raises Heap", "assert", "break", "end end", "", "test s", "!", "let x = x", "call f( ) )"):
            self.refuse_text(1, "test a", row, "end")
            self.refuse_text(6, "error Full", "test a", "raises Full", "end", "end", "test b", row, "end")
        self.refuse_text(4, "test a", "let x = f()", "end", "test b", "assert x", "end")
        self.refuse_text(7, "test a", "set a", "set b", "set c", "end", "test b", "set d", "call f", "end")

    def test_texts_that_end_too_early(self):
        lines = TEXT.split("\n")
        whole = (0, 1, 2, 3, 8, 11)
        for many in range(len(lines) + 1):
            if many in whole:
                suite = Suite.read("\n".join(lines[:many]))
                self.assertEqual((len(suite.family) - 4, len(suite)), (min(many, 3), {8: 1, 11: 2}.get(many, 0)))
            else:
                self.refuse_text(many, *lines[:many])

    def test_equal_names(self):
        self.refuse_text(2, "test a", "end", "test a", "end")
        self.refuse_text(5, "test a", "end", "test b", "pass", "end", " test  a", "!")
        self.refuse_text(5, "error Full", "test a", "end", "test b", "end", "test b")
        self.assertEqual(Suite.read("test a\nend\ntest aa\nend").names(), ["a", "aa"])

    def test_forty_lines(self):
        fine = ["test a", *["pass"] * 38, "end"]
        long = ["test b", *["pass"] * 39, "end"]
        self.assertEqual(len(Suite.read("\n".join([*fine, "test b", *fine[1:]]))), 2)
        self.refuse_text(40, *long)
        self.refuse_text(81, "error Full", *fine, *long)
        self.refuse_text(80, *fine, *long[:40])
        self.refuse_text(79, *fine, *long[:39])

    def test_many_tests(self):
        names = [one + other for one in "abcdefgh" for other in "abcdefgh"]
        names = [name for name in names if name not in ("as", "if")]
        suite = Suite.read("\n".join(f"test x{name}\n  call f()\nend" for name in names))
        self.assertEqual(suite.names(), ["x" + name for name in names])


class Passing(Base):
    def test_part_in_suite(self):
        suite = Suite.read("test a\nassert f() == 1\nend\ntest b\nassume g()\nend\ntest c\nraises Error\ncall h()\nend\nend")
        right = {"f()": 1, "g()": 2, "h()": ("raises", "Odd", None)}
        self.assertIn(Part.steady(right), suite)
        for text in right:
            self.assertNotIn(Part.steady({**right, text: None}), suite)
        self.assertNotIn(Part(), suite)
        self.assertIs(Part.steady(right) in suite, True)
        self.assertIs(Part() in suite, False)

    def test_no_tests(self):
        self.assertIn(Part(), Suite(PLAIN))
        self.assertIn(Part([(("f()",), [1])], ageing=True), Suite(FULL))

    def test_ageing(self):
        suite = Suite.read("test a\nassert f() == 1\nassert f() == 2\nend\ntest b\nassert f() == 1\nend")
        self.assertIn(Part([(("f()",), 1), (("f()", "f()"), 2)], ageing=True), suite)
        self.assertNotIn(Part([(("f()",), 1)], ageing=True), suite)
        self.assertNotIn(Part([(("f()",), 1)]), suite)


class Both(Base):
    def test_tests_of_both(self):
        a, b, c, d = (test(name, "pass") for name in "abcd")
        one, other = Suite(PLAIN, b, a), Suite(PLAIN, c, a, d)
        self.assertEqual((one & other).tests, (b, a, c, d))
        self.assertEqual((other & one).tests, (c, a, d, b))
        self.assertEqual((one.tests, other.tests), ((b, a), (c, a, d)))
        self.assertEqual((one & one), one)
        self.assertIsNot(one & one, one)
        self.assertEqual(one & Suite(PLAIN), one)
        self.assertEqual(Suite(PLAIN) & one, one)
        self.assertEqual((Suite(PLAIN, a) & Suite(PLAIN, test("a", "  pass"), b)).tests, (a, b))

    def test_equal_names(self):
        a, b, c, wrong, worse = test("a"), test("b"), test("c"), test("a", "pass"), test("b", "pass")
        self.refuse(0, lambda: Suite(PLAIN, a) & Suite(PLAIN, wrong))
        self.refuse(2, lambda: Suite(PLAIN, a, b) & Suite(PLAIN, c, a, worse))
        self.refuse(1, lambda: Suite(PLAIN, b, a) & Suite(PLAIN, c, wrong, worse))

    def test_other_families(self):
        for family in (FULL, Family([("Full", None), ("Heap", None)]), Family([("Heap", None)])):
            self.refuse(-1, lambda: Suite(PLAIN, test("a")) & Suite(family, test("a", "pass", family=family)))
            self.refuse(-1, lambda: Suite(family) & Suite(PLAIN))
        self.assertEqual(Suite(FULL) & Suite(Family(FULL.declared)), Suite(FULL))
        self.assertEqual((Suite(FULL) & Suite(FULL, test("a", family=FULL))).family, FULL)


if __name__ == "__main__":
    unittest.main()

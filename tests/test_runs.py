"""Runs (points 10 to 14): what is executed and called, and how a test ends."""

import unittest

from whatpasses.families import Family
from whatpasses.parts import Part
from whatpasses.reading import Test
from whatpasses.runs import End, run, trace

FAMILY = Family([("Full", None), ("Heap", "Full")])
PASSES = ("passes", None, None, None)


def read(*rows):
    return Test.read("\n".join(["test t", *rows, "end"]), FAMILY)


def error(kind, cause=None):
    return ("raises", kind, cause)


class Base(unittest.TestCase):
    def ends(self, rows, part, end, executed=None, called=None):
        """The run of these rows on this part (or on a steady one with this answer to f())."""
        if not isinstance(part, Part):
            part = Part.steady({"f()": part})
        test = read(*rows)
        before = str(test), part.entries
        found = run(test, part)
        self.assertIsInstance(found, End)
        self.assertEqual((found.word, found.line, found.kind, found.cause), end, rows)
        self.assertIs(bool(found), end[0] == "passes")
        self.assertIsInstance(found.rows, tuple)
        self.assertIsInstance(found.paths, tuple)
        if executed is not None:
            self.assertEqual(found.rows, executed, rows)
        if called is not None:
            self.assertEqual(found.paths, tuple((text,) for text in called), rows)
        self.assertEqual(list(trace(test, part)), [(line, test[line]) for line in found.rows])
        self.assertEqual(run(test, part), found)
        self.assertEqual((str(test), part.entries), before)

    def passes(self, rows, part, executed=None, called=None):
        self.ends(rows, part, PASSES, executed, called)

    def fails(self, rows, part, line, kind="Failed", cause=None, executed=None, called=None):
        self.ends(rows, part, ("fails", line, kind, cause), executed, called)

    def skips(self, rows, part, line, executed=None, called=None):
        self.ends(rows, part, ("skips", line, None, None), executed, called)


class Rows(Base):
    def test_no_rows(self):
        self.passes((), None, (), ())

    def test_plain_rows(self):
        self.passes(("pass", "set a", "clear a", "pass"), None, (1, 2, 3, 4), ())
        self.fails(("pass", "fail", "pass"), None, 2, executed=(1, 2))
        self.passes(("pass", "return", "fail"), None, (1, 2))
        self.skips(("pass", "skip", "fail"), None, 2, (1, 2))

    def test_calls(self):
        self.passes(("call f()", "call f()", "call g(1)"), 7, (1, 2, 3), ("f()", "f()", "g(1)"))
        self.fails(("pass", "call f()", "fail"), error("Full"), 2, "Full", None, (1, 2), ("f()",))
        self.fails(("call f()",), error("Odd", "Beyond"), 1, "Odd", "Beyond", (1,), ("f()",))
        self.fails(("let x = f()", "fail"), error("Failed", "Odd"), 1, "Failed", "Odd", (1,), ("f()",))
        self.fails(("pass", "for x in f()", "end"), error("Misuse", "Heap"), 2, "Misuse", "Heap", (1, 2), ("f()",))
        for row in ("assert f()", "assume f()", "if f()", 'assert (f(), "")', "assert f() is none", "assert len(f()) == 0",
                    "assert 1 in f()", "assert f()[0]", "assert not f()", "assert on a or f() == 1 or g()"):
            self.fails(("pass", row, *["end"] * (row[:2] == "if")), error("Heap", "Full"), 2, "Heap", "Full", (1, 2), ("f()",))

    def test_a_name_makes_no_call_later(self):
        rows = ("let x = f()", "assert x == 5 and x > 4", "assert f() == 5 and f() > 4", "for y in x", "end")
        self.fails(rows, 5, 4, "Misuse", None, (1, 2, 3, 4), ("f()",) * 3)
        self.passes(("let x = f()", "for y in x", "end", "for y in f()", "end"), [1, 2], (1, 2, 4), ("f()", "f()"))

    def test_a_thing_is_called_each_time(self):
        self.passes(("assert f() == 3 and f() < 4 and not f() == 4",), 3, (1,), ("f()",) * 3)
        self.passes(("let f = f()", "assert f == 3 and f() == 3"), 3, (1, 2), ("f()", "f()"))

    def test_asserts(self):
        self.passes(("assert f() == 1", "assume f() == 1"), 1, (1, 2))
        self.fails(("pass", "assert f() == 1", "pass"), 2, 2, executed=(1, 2))
        self.skips(("pass", "assume f() == 1", "fail"), 2, 2, (1, 2))
        for answer in (1, 2, None):
            self.passes(('assert (f() == 1, "words")', "pass"), answer, (1, 2), ("f()",))
        self.fails(('assert (f() < 1, "words")', "pass"), "a", 1, "Misuse")
        self.fails(("pass", "assume f()[3] == 1"), [], 2, "Beyond")

    def test_flags(self):
        self.passes(("assert not on a", "set a", "assert on a and not on b", "set a", "clear b", "clear a", "assert not on a"), None)
        self.passes(("set b", "set a", "clear b", "assert on a and not on b", "set c", "assert on c and on a"), None)
        self.fails(("set a", "clear a", "assert on a"), None, 3)
        self.passes(("try", "set a", "fail", "except Failed", "assert on a", "clear a", "end", "assert not on a"), None)
        self.passes(("raises Failed", "set a", "if on a", "set b", "fail", "end", "end", "assert on a and on b"), None)

    def test_by_name(self):
        self.assertEqual(run(test=read("pass"), part=Part()).rows, (1,))
        self.assertEqual(list(trace(test=read("pass"), part=Part())), [(1, "  pass")])


class Atoms(Base):
    ANSWERS = (None, 0, 1, -1, 7, 10 ** 35, "", "a", "none", [], [None], [0], [1], [1, 2], ["a", 7], [None, 0, 7, "a", 1])

    def check(self, atom, holds):
        """holds(answer) is whether the atom is true, or the class of an error."""
        for answer in self.ANSWERS:
            wanted = holds(answer)
            for before in ((), ("let x = f()",)):
                text = atom.replace("f()", "x") if before else atom
                line = len(before) + 1
                if isinstance(wanted, str):
                    for row in (f"assert {text}", f"assert not {text}", f"assume {text}", f'assert ({text}, "")'):
                        self.fails((*before, row), answer, line, wanted, called=("f()",))
                else:
                    self.assertIsInstance(wanted, bool)
                    (self.passes if wanted else lambda *rest: self.fails(*rest, line))((*before, f"assert {text}"), answer)
                    (self.fails if wanted else self.passes)((*before, f"assert not {text}"), answer, *([line] * wanted))
                    (self.passes if wanted else lambda *rest: self.skips(*rest, line))((*before, f"assume {text}"), answer)

    def test_subjects(self):
        self.check("f()", lambda answer: answer not in (None, 0, "", []))

    def test_equal(self):
        for text, value in (("none", None), ("0", 0), ("1", 1), ("-1", -1), ('""', ""), ('"a"', "a"), ('"none"', "none"), ("[]", []),
                            ("[none]", [None]), ("[1, 2]", [1, 2]), ('["a", 7]', ["a", 7]), ("[2, 1]", [2, 1]), ("[0]", [0])):
            self.check(f"f() == {text}", lambda answer: answer == value)
            self.check(f"f() != {text}", lambda answer: answer != value)

    def test_order(self):
        def compare(answer, holds):
            return holds(answer) if isinstance(answer, int) else "Misuse"
        for number in (-1, 0, 1, 7):
            self.check(f"f() < {number}", lambda answer: compare(answer, lambda value: value < number))
            self.check(f"f() <= {number}", lambda answer: compare(answer, lambda value: value <= number))
            self.check(f"f() > {number}", lambda answer: compare(answer, lambda value: value > number))
            self.check(f"f() >= {number}", lambda answer: compare(answer, lambda value: value >= number))

    def test_kinds(self):
        for word, kind in (("none", type(None)), ("number", int), ("word", str), ("list", list)):
            self.check(f"f() is {word}", lambda answer: isinstance(answer, kind))

    def test_indexes(self):
        def item(answer, index, holds):
            if not isinstance(answer, list):
                return "Misuse"
            return holds(answer[index]) if -len(answer) <= index < len(answer) else "Beyond"
        for index in (0, 1, 4, 5, 9, -1):
            self.check(f"f()[{index}]", lambda answer: item(answer, index, bool))
            self.check(f"f()[{index}] == 1", lambda answer: item(answer, index, lambda value: value == 1))
            self.check(f"f()[{index}] != none", lambda answer: item(answer, index, lambda value: value is not None))
            self.check(f"f()[{index}] == [1]", lambda answer: item(answer, index, lambda value: False))
            self.check(f"f()[{index}] != []", lambda answer: item(answer, index, lambda value: True))
            self.check(f"f()[{index}] is list", lambda answer: item(answer, index, lambda value: False))
            self.check(f"f()[{index}] is word", lambda answer: item(answer, index, lambda value: isinstance(value, str)))
            self.check(f"f()[{index}] < 2", lambda answer: item(
                answer, index, lambda value: value < 2 if isinstance(value, int) else "Misuse"))

    def test_lengths(self):
        for sign, holds in (("==", int.__eq__), ("!=", int.__ne__), ("<", int.__lt__), ("<=", int.__le__), (">", int.__gt__),
                            (">=", int.__ge__)):
            for number in (0, 1, 2, 20):
                self.check(f"len(f()) {sign} {number}",
                           lambda answer: holds(len(answer), number) if isinstance(answer, list) else "Misuse")

    def test_in(self):
        for text, value in (("none", None), ("0", 0), ("1", 1), ("7", 7), ('"a"', "a"), ('""', ""), ("-1", -1)):
            self.check(f"{text} in f()", lambda answer: value in answer if isinstance(answer, list) else "Misuse")

    def test_items_of_a_loop(self):
        items = (None, 0, 1, -3, 10 ** 35, "", "a")
        for atom, holds in (("x", lambda item: item not in (None, 0, "")), ("x == none", lambda item: item is None),
                            ("x != 0", lambda item: item != 0), ('x == "a"', lambda item: item == "a"), ("x == []", lambda item: False),
                            ("x != [none]", lambda item: True), ("x is number", lambda item: isinstance(item, int)),
                            ("x is list", lambda item: False), ("x is none", lambda item: item is None),
                            ("x < 1", lambda item: item < 1 if isinstance(item, int) else "Misuse"),
                            ("not x >= 1", lambda item: not item >= 1 if isinstance(item, int) else "Misuse")):
            for item in items:
                wanted, rows = holds(item), ("for x in f()", f"assert {atom}", "end")
                if wanted is True:
                    self.passes(rows, [item])
                else:
                    self.fails(rows, [item], 2, wanted or "Failed")


class Conditions(Base):
    PART = {"t()": 1, "n()": 0, "e()": error("Full", "Heap")}

    def ask(self, condition, holds, called):
        part = Part.steady(self.PART)
        called = [text + "()" for text in called]
        if holds == "error":
            self.fails(("assert " + condition,), part, 1, "Full", "Heap", (1,), called)
        elif holds:
            self.passes(("assert " + condition,), part, (1,), called)
        else:
            self.fails(("assert " + condition,), part, 1, executed=(1,), called=called)
        if holds != "error":
            self.passes(("if " + condition, "pass", "else", "pass", "end"), part, (1, 2 if holds else 4), called)

    def test_where_they_stop(self):
        for condition, holds, called in (
            ("t() or e()", True, "t"), ("n() or t()", True, "nt"), ("n() or n()", False, "nn"), ("t() and n()", False, "tn"),
            ("n() and e()", False, "n"), ("t() and t()", True, "tt"), ("n() and e() or t()", True, "nt"), ("e() or t()", "error", "e"),
            ("t() and e() or t()", "error", "te"), ("t() or e() and e()", True, "t"), ("n() and e() or n() and e()", False, "nn"),
            ("t() and n() or t() and t()", True, "tntt"), ("not t() or not n()", True, "tn"), ("not n() and t()", True, "nt"),
            ("not t() and e()", False, "t"), ("not e() or t()", "error", "e"), ("t() and t() and n() and e()", False, "ttn"),
            ("n() or n() or n() or n() or n() or t()", True, "nnnnnt"), ("n() or t() and n() or n()", False, "ntnn"),
            ("on a or t()", True, "t"), ("not on a or e()", True, ""), ("on a and e()", False, ""), ("t() and not on a", True, "t"),
            ("on a and e() or n() or not on a and t()", True, "nt"), ("not on a and not on a", True, ""), ("on a or on b", False, ""),
        ):
            self.ask(condition, holds, called)

    def test_errors_of_atoms_stop_too(self):
        self.fails(("assert f() < 1 or g()",), "a", 1, "Misuse", called=("f()",))
        self.fails(("assert not f()[0] and g()",), [], 1, "Beyond", called=("f()",))
        self.passes(("assert g() or f() or f() < 1 or g()",), 1, called=("g()", "f()"))


class Raises(Base):
    def test_which_errors_are_taken(self):
        for kind, wanted, taken in (("Full", "Full", True), ("Heap", "Full", True), ("Full", "Heap", False), ("Odd", "Error", True),
                                    ("Odd", "Full", False), ("Error", "Error", True), ("Error", "Full", False),
                                    ("Beyond", "Misuse", True), ("Misuse", "Beyond", False), ("Failed", "Misuse", False)):
            for cause in (None, "Full", "Odd"):
                rows = (f"raises {wanted}", "pass", "call f()", "fail", "end", "call g()")
                if taken:
                    self.passes(rows, error(kind, cause), (1, 2, 3, 6), ("f()", "g()"))
                else:
                    self.fails(rows, error(kind, cause), 3, kind, cause, (1, 2, 3), ("f()",))

    def test_causes(self):
        rows = ("pass", "raises Full from Misuse", "call f()", "end", "pass")
        for kind in ("Full", "Heap"):
            for cause in ("Misuse", "Beyond"):
                self.passes(rows, error(kind, cause), (1, 2, 3, 5))
            for cause in (None, "Error", "Full", "Odd", "Failed"):
                self.fails(rows, error(kind, cause), 2, executed=(1, 2, 3))
        for kind in ("Error", "Odd", "Misuse", "Failed"):
            for cause in (None, "Misuse", "Beyond", "Error"):
                self.fails(rows, error(kind, cause), 3, kind, cause)
        for cause, taken in (("Odd", True), ("Error", True), (None, False)):
            rows = ("raises Error from Error", "call f()", "end")
            self.passes(rows, error("Odd", cause)) if taken else self.fails(rows, error("Odd", cause), 1)
        self.fails(("raises Failed from Error", "fail", "end"), None, 1)
        self.fails(("raises Misuse from Error", "fail", "end"), None, 2)

    def test_errors_of_the_test_itself(self):
        self.passes(("raises Failed", "fail", "end"), None, (1, 2))
        self.passes(("raises Misuse", "assert f() < 1", "end"), "a")
        self.passes(("raises Misuse", "assert f()[0]", "end"), [])
        self.fails(("raises Failed", "assert f() < 1", "end"), "a", 2, "Misuse")
        self.passes(("raises Failed", "assert f()", "end"), None)
        self.passes(("raises Misuse", "for x in f()", "end", "end"), 3)

    def test_rows_without_an_error(self):
        for rows in ((), ("pass",), ("return",), ("if not f()", "return", "end"), ("assert not f()", "for x in g()", "return", "end")):
            part = Part.steady({"g()": [1]})
            self.fails(("pass", "raises Error", *rows, "end", "pass"), part, 2)
            self.passes(("raises Failed", "raises Error", *rows, "end", "fail", "end", "pass"), part)
        for word in ("break", "continue", "return", "pass"):
            self.fails(("for x in f()", "raises Error", word, "end", "end"), [1, 2], 2, executed=(1,))

    def test_skips_go_through(self):
        for row in ("skip", "assume f()"):
            self.skips(("raises Error", "raises Error", row, "end", "end", "fail"), None, 3, (1, 2, 3))
            self.skips(("try", row, "except Error", "fail", "else", "fail", "end"), None, 2, (1, 2))
        self.skips(("raises Error", "for x in f()", "skip", "end", "end"), [1], 3, (1, 2))

    def test_one_inside_another(self):
        rows = ("raises Full", "raises Misuse from Full", "call f()", "end", "end")
        self.fails(rows, error("Misuse"), 2, executed=(1, 2, 3))
        self.fails(rows, error("Misuse", "Heap"), 1, executed=(1, 2, 3))
        self.passes(rows, error("Heap", "Full"), (1, 2, 3))
        self.fails(rows, error("Odd", "Full"), 3, "Odd", "Full")
        self.passes(("raises Failed", *rows, "end"), error("Misuse"))


class Tries(Base):
    ROWS = ("try", "call f()", "pass", "except Full", "call g()", "except Misuse", "pass", "except Error", "skip", "else", "pass",
            "end", "pass")

    def test_which_branch(self):
        self.passes(self.ROWS, 3, (1, 2, 3, 11, 13), ("f()",))
        for kind in ("Full", "Heap"):
            self.passes(self.ROWS, error(kind, "Odd"), (1, 2, 4, 5, 13), ("f()", "g()"))
        for kind in ("Misuse", "Beyond"):
            self.passes(self.ROWS, error(kind), (1, 2, 6, 7, 13))
        for kind in ("Error", "Failed", "Odd"):
            self.skips(self.ROWS, error(kind, "Full"), 9, (1, 2, 8, 9))
        self.fails(("try", "call f()", "except Full", "end", "pass"), error("Odd", "Heap"), 2, "Odd", "Heap", (1, 2))
        self.passes(("try", "call f()", "except Error", "pass", "except Full", "fail", "end"), error("Full"), (1, 2, 3, 4))

    def test_without_else(self):
        self.passes(("try", "except Error", "fail", "end", "pass"), None, (1, 5))
        self.passes(("try", "except Error", "fail", "else", "end", "pass"), None, (1, 6))
        self.passes(("try", "call f()", "except Error", "end", "pass"), 1, (1, 2, 5))
        self.passes(("try", "call f()", "except Error", "except Full", "end", "pass"), error("Full"), (1, 2, 3, 6))

    def test_errors_of_the_other_rows(self):
        self.fails(("try", "fail", "except Failed", "call f()", "except Error", "pass", "end"), error("Full"), 4, "Full",
                   executed=(1, 2, 3, 4))
        self.fails(("try", "pass", "except Failed", "pass", "else", "fail", "end"), None, 6, executed=(1, 2, 6))
        self.passes(("try", "try", "fail", "except Failed", "call f()", "end", "except Full", "pass", "end"), error("Heap"),
                    (1, 2, 3, 4, 5, 7, 8))
        self.passes(("try", "try", "pass", "except Error", "else", "fail", "end", "except Failed", "pass", "end"), None,
                    (1, 2, 3, 6, 8, 9))

    def test_ways_out(self):
        self.passes(("try", "return", "except Error", "fail", "else", "fail", "end", "fail"), None, (1, 2))
        self.passes(("try", "fail", "except Error", "return", "else", "fail", "end", "fail"), None, (1, 2, 3, 4))
        self.passes(("try", "except Error", "fail", "else", "return", "end", "fail"), None, (1, 5))
        for word, last in (("break", 5), ("continue", 5)):
            rows = ("for x in f()", "try", word, "except Error", "fail", "else", "fail", "end", "fail", "end", "pass")
            self.passes(rows, [1, 2], (1, 11))
        self.fails(("raises Error", "try", "return", "except Error", "fail", "end", "end"), None, 1)


class Ifs(Base):
    def test_branches(self):
        rows = ("if f() == 1", "call g()", "else", "call h()", "end", "call k()")
        self.passes(rows, 1, (1, 2, 6), ("f()", "g()", "k()"))
        self.passes(rows, 2, (1, 4, 6), ("f()", "h()", "k()"))
        self.passes(("if f()", "call g()", "end", "call k()"), 1, (1, 2, 4))
        self.passes(("if f()", "call g()", "end", "call k()"), 0, (1, 4))
        self.passes(("if f()", "else", "end", "if f()", "end", "if not f()", "else", "call g()", "end"), 1, (1, 4, 6, 8))
        self.passes(("if f()", "if g()", "pass", "else", "pass", "end", "else", "fail", "end"), 1, (1, 2, 5))

    def test_ways_out(self):
        self.passes(("if f()", "return", "end", "fail"), 1, (1, 2))
        self.skips(("if f()", "else", "skip", "end", "fail"), 0, 3, (1, 3))
        self.fails(("if f()", "pass", "else", "fail", "end"), 0, 4, executed=(1, 4))
        self.fails(("if f() < 1", "pass", "else", "pass", "end"), "a", 1, "Misuse", executed=(1,))
        self.passes(("raises Misuse", "if f() < 1", "pass", "end", "end"), "a", (1, 2))


class Loops(Base):
    def test_answers_that_are_no_lists(self):
        for answer in (None, 0, 7, "", "abc"):
            self.fails(("pass", "for x in f()", "fail", "end"), answer, 2, "Misuse", None, (1, 2), ("f()",))
            self.fails(("let y = f()", "for x in y", "fail", "end"), answer, 2, "Misuse", None, (1, 2), ("f()",))

    def test_lengths(self):
        rows = ("for x in f()", "if on b", "set c", "end", "if on a", "set b", "end", "set a", "end",
                "if on a", "if on b", "assert on c", "end", "end")
        self.passes(rows, [], (1, 10))
        self.passes(rows, [None], (1, 10, 11))
        self.fails(rows, [None, 1], 12, executed=(1, 10, 11, 12))
        for many in (3, 4, 2000):
            self.passes(rows, ["a"] * many, (1, 10, 11, 12), ("f()",))

    def test_items_in_order(self):
        rows = ("for x in f()", "if x == 1", "assert not on b", "set a", "else", "assert on a", "clear a", "set b", "end", "end",
                "assert on b")
        self.passes(rows, [1, 2])
        self.fails(rows, [2, 1], 6, executed=(1,))
        self.fails(rows, [1, 2, 1], 3, executed=(1,))
        self.fails(rows, [1, 2, 2], 6)
        self.fails(rows, [1], 11, executed=(1, 11))

    def test_break_and_continue(self):
        rows = ("for x in f()", "if x == 1", "break", "end", "if x == 2", "continue", "end", "set a", "if x == 3", "return", "end",
                "if x == 4", "skip", "end", "end", "assert on a")
        self.fails(rows, [], 16)
        self.fails(rows, [1, 0], 16)
        self.fails(rows, [2, 2, 1, 0], 16, executed=(1, 16))
        self.passes(rows, [2, 0, 1, 4], (1, 16))
        self.passes(rows, [0, 3, 4], (1,))
        self.skips(rows, [2, 0, 0, 4, 3], 13, (1,))

    def test_errors(self):
        self.fails(("for x in f()", "assert x", "end"), [1, 2, 0, 3], 2, executed=(1,))
        self.fails(("for x in f()", "assert x > 3", "end"), [4, "a"], 2, "Misuse", executed=(1,))
        self.passes(("for x in f()", "try", "assert x", "except Failed", "set a", "else", "set b", "end", "end",
                     "assert on a and on b"), [0, 1], (1, 10))
        self.passes(("for x in f()", "raises Misuse", "assert x < 1", "end", "end"), ["a", None], (1,))
        self.fails(("for x in f()", "raises Misuse", "assert x < 1", "end", "end"), ["a", 0], 2)
        self.fails(("for x in f()", "raises Failed", "assert x < 1", "end", "end"), ["a"], 3, "Misuse")
        self.fails(("for x in f()", "raises Failed from Error", "assert x", "end", "end"), [0], 2)
        self.passes(("try", "set a", "for x in f()", "set b", "assert x", "clear b", "end", "except Failed", "assert on b", "end"),
                    [1, 0], (1, 2, 3, 8, 9))
        self.passes(("raises Failed", "for x in f()", "assert x", "end", "end", "pass"), [1, 0], (1, 2, 6))

    def test_ways_out_of_blocks_in_a_loop(self):
        for word, hits in (("break", ["a"]), ("continue", ["a", "c"])):
            for block in (("if x", word, "end"), ("if not x", "pass", "else", word, "end"), ("try", word, "except Error", "end"),
                          ("try", "fail", "except Error", word, "end"), ("try", "except Error", "else", word, "end"),
                          ("if x", "if x", "try", word, "except Error", "end", "end", "end")):
                rows = ("for x in f()", "if on a", "set c", "end", "set a", *block, "set b", "end")
                self.passes((*rows, "assert on a and not on b"), [1, 1])
                end = (*rows, "assert on c")
                (self.passes if word == "continue" else lambda *more: self.fails(*more, len(end)))(end, [1, 1])

    def test_after_a_loop(self):
        self.passes(("for x in f()", "end", "for x in f()", "assert x", "end", "let x = g()", "assert x is none"), [1],
                    (1, 3, 6, 7), ("f()", "f()", "g()"))
        self.fails(("for x in f()", "return", "end", "fail"), [], 4, executed=(1, 4))
        self.passes(("for x in f()", "return", "end", "fail"), [None], (1,))
        self.fails(("raises Error", "for x in f()", "return", "end", "end"), [None], 1, executed=(1, 2))


class Ageing(Base):
    ROWS = ("let x = f()", "assert f() == 2 or g(1)", "raises Full", "call f()", "end", "for y in f()", "end")

    def test_paths(self):
        entries = [
            (("f()",), 1), (("f()", "f()"), 3), (("f()", "f()", "g(1)"), 1), (("f()", "f()", "g(1)", "f()"), error("Heap")),
            (("f()", "f()", "g(1)", "f()", "f()"), [0]),
        ]
        end = run(read(*self.ROWS), Part(entries, ageing=True))
        self.assertEqual(end.word, "passes")
        self.assertEqual(end.rows, (1, 2, 3, 4, 6))
        self.assertEqual(end.paths, tuple(path for path, _ in entries))

    def test_another_part(self):
        end = run(read(*self.ROWS), Part([(("f()", "f()"), 2)], ageing=True))
        self.assertEqual((end.word, end.line, end.kind, end.rows), ("fails", 3, "Failed", (1, 2, 3, 4)))
        self.assertEqual(end.paths, (("f()",), ("f()", "f()"), ("f()", "f()", "f()")))
        part = Part([(("f()",), 2)], ageing=True)
        end = run(read(*self.ROWS), part)
        self.assertEqual((end.word, end.line), ("fails", 2))
        self.assertEqual(end.paths, (("f()",), ("f()", "f()"), ("f()", "f()", "g(1)")))
        self.assertEqual(part.entries, ((("f()",), 2),))

    def test_each_test_begins_anew(self):
        part = Part([(("f()",), 1), (("f()", "f()"), 2)], ageing=True)
        for _ in range(2):
            self.assertTrue(run(read("assert f() == 1", "assert f() == 2"), part))
        self.assertFalse(run(read("assert f() == 1", "assert f() == 2"), Part([(("f()",), 1)])))

    def test_steady(self):
        end = run(read("call g(1)", "let x = f()", "assert x == 5 and f() == 5", "call g(1)"), Part([(("f()",), 5)]))
        self.assertEqual(end.paths, (("g(1)",), ("f()",), ("f()",), ("g(1)",)))
        self.assertTrue(end)


class Ends(Base):
    def test_equality(self):
        rows = ("call f()", "if g()", "fail", "else", "skip", "end")
        one = run(read(*rows), Part())
        for same in (run(read(*rows), Part()), run(read(*rows), Part.steady({"f()": 1})),
                     run(Test.read(str(read(*rows)), Family.plain()), Part())):
            self.assertTrue(one == same and not one != same)
        for other in (run(read(*rows), Part.steady({"g()": 1})), run(read(*rows), Part.steady({"f()": error("Full")})),
                      run(read(*rows), Part(ageing=True)), run(read(*rows[:4], "return", "end"), Part()), None, "skips", True, 0):
            self.assertTrue(one != other and not one == other)

    def test_each_of_the_six_counts(self):
        ends = [
            run(read("call f()", row), Part.steady({"f()": answer}))
            for row in ("call f()", "pass", "fail", "skip", "call g()")
            for answer in (1, error("Full"), error("Heap"), error("Full", "Heap"), error("Full", "Full"))
        ]
        values = [(end.word, end.line, end.kind, end.cause, end.rows, end.paths) for end in ends]
        for one, first in zip(ends, values):
            for other, second in zip(ends, values):
                self.assertEqual(one == other, first == second)
        self.assertNotEqual(run(read("pass"), Part()), run(read("set a", "pass"), Part()))
        self.assertNotEqual(run(read("call f()"), Part()), run(read("call g()"), Part()))
        branches = read("if f()", "fail", "end", "fail")
        one, other = run(branches, Part.steady({"f()": 1})), run(branches, Part())
        self.assertEqual((one.word, one.kind, one.paths), (other.word, other.kind, other.paths))
        self.assertNotEqual(one, other)
        one, other = run(read("raises Full", "fail", "end"), Part()), run(read("raises Full", "pass", "end"), Part())
        self.assertEqual((one.word, one.kind, one.rows), (other.word, other.kind, other.rows))
        self.assertNotEqual(one, other)

    def test_trace(self):
        test = read("raises Full", "  call f( )", "end", "if  g()", "fail", "else", "assert g()==none", "end")
        lines = list(trace(test, Part.steady({"f()": error("Full")})))
        self.assertEqual(lines, [(1, "  raises Full"), (2, "    call f()"), (4, "  if g()"), (7, "    assert g() == none")])
        self.assertEqual(list(trace(read(), Part())), [])
        self.assertEqual(list(trace(test, Part())), [(1, "  raises Full"), (2, "    call f()")])
        self.assertEqual(next(iter(trace(test, Part()))), (1, "  raises Full"))


if __name__ == "__main__":
    unittest.main()

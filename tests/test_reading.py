"""Tests as texts (points 7, 8, 9 and 26 as far as `reading.py` needs it)."""

import itertools
import os
import sys
import unittest

sys.path.insert(0, os.path.dirname(os.path.abspath(__file__)))

from plain import plain_test  # noqa: E402

from whatpasses.errors import BadTest, NoCheck
from whatpasses.families import Family
from whatpasses.reading import Test

PLAIN = Family.plain()
FULL = Family([("Full", None), ("Heap", "Full"), ("A", None), ("Abcdefghijkl", None)])
KEYWORDS = (
    "and assert assume break call clear continue else end error except fail for from if in is len let list none not "
    "number on or pass raises return set skip test try under word"
).split()
NO_NAMES = KEYWORDS + [
    "abcdefghijklm", "a" * 30, "A", "aB", "Ab", "a1", "1", "0", "-1", '"a"', "a_b", "a-b", "", "a b", "=", "(", "f()", "`",
]
SIGNS = ("==", "!=", "<", "<=", ">", ">=")
LETTERS = "abcdefghijklmnopqrstuvwxyz"


def read(*rows, family=PLAIN):
    """The test with these rows."""
    return Test.read("\n".join(["test t", *rows, "end"]), family)


class Base(unittest.TestCase):
    def refuse(self, text, line, family=PLAIN):
        with self.assertRaises(BadTest, msg=text) as caught:
            Test.read(text, family)
        self.assertEqual(caught.exception.at, line, text)
        self.assertNotIsInstance(caught.exception.at, bool)

    def refuse_row(self, *rows, family=PLAIN):
        """The last of these rows cannot stand, whatever comes behind it."""
        text = "\n".join(["test t", *rows])
        self.refuse(text, len(rows), family)
        self.refuse(text + "\nend", len(rows), family)
        self.refuse(text + "\nend\nend\nnonsense !", len(rows), family)

    def accept(self, *rows, family=PLAIN):
        test = read(*rows, family=family)
        self.assertEqual(len(test), len(rows) + 2)
        return test

    def row(self, row, *before, family=PLAIN):
        """A row that can stand alone, in its written form without indentation."""
        return self.accept(*before, row, family=family)[len(before) + 1].strip(" ")


class Tokens(Base):
    def test_no_strings(self):
        for thing in (None, 0, True, b"test t\nend", ["test t", "end"], ("test t",), (), [], 10 ** 39):
            self.refuse(thing, -1)

    def test_the_smallest_test(self):
        test = Test.read("test t\nend", PLAIN)
        self.assertEqual((test.name, test.flags, test.calls(), test.checks(), len(test)), ("t", (), [], [], 2))
        self.assertEqual(test.family, PLAIN)
        self.assertEqual(str(test), "test t\nend")
        self.assertEqual(Test.read(text="test t\nend", family=FULL).family, FULL)

    def test_few_and_many_spaces(self):
        few = 'assert(f(1,-2,"ab")[0]==7 or 2in x and len(f())>=1,"words")'
        many = '  assert ( f ( 1 , -2 ,  "ab" ) [ 0 ]  ==  7   or 2 in x and len ( f ( ) ) >= 1 , "words"  )   '
        form = 'assert (f(1, -2, "ab")[0] == 7 or 2 in x and len(f()) >= 1, "words")'
        for text in (few, many, form, " " * 60 + few + " " * 60):
            self.assertEqual(self.row(text, "let x=g()"), form)
        self.assertEqual(self.row("let x=f()"), "let x = f()")
        self.assertEqual(self.row('assert"a"in f()'), 'assert "a" in f()')
        self.assertEqual(self.row("assert 1in f()and 2in g()"), "assert 1 in f() and 2 in g()")
        self.assertEqual(self.row("assert f()==[1,none,\"\"]"), 'assert f() == [1, none, ""]')
        self.assertEqual(self.row("assert f()!=[ ]"), "assert f() != []")
        self.assertEqual(self.row("assert f()<-1or f()>1"), "assert f() < -1 or f() > 1")
        self.assertEqual(str(Test.read("test  t  \n   pass\n end ", PLAIN)), "test t\n  pass\nend")

    def test_spaces_apart(self):
        for row in ("pas s", "asser t f()", "assert f() = = 1", "assert f() ! = 1", "assert f() < = 1", "assert f() - 1",
                    "assert f() == - 1", 'assert f() == " a"', 'assert f() == "a b"', "assert f() == 1 2", "callf()",
                    "assertf()", "setx", "assert f()isnone", "assert 2inf()", "assert noton a", "letx = f()"):
            self.refuse_row(row)

    def test_other_characters_at_each_place(self):
        row = 'assert f("ab", -12)[0] == 7 or len(f()) >= 1'
        self.accept(row)
        for character in "!#$&'*+./:;?@\\^_`{|}~-\"\t\r\f\v\x00\x7f\u00e9\u0661\u2003":
            for at in range(len(row) + 1):
                if character != "-" or not row[at:at + 1].isdigit():
                    self.refuse_row(row[:at] + character + row[at:])
        for line in ("!", "test t!", "test #t", "test t\t", "test t-"):
            self.refuse(line + "\nend", 0)
        self.refuse("test t\nend%", 1)

    def test_longest_tokens(self):
        for row in ("assert f() === 1", "assert f() =! 1", "assert f() <== 1", "assert f() =< 1", "assert f() => 1",
                    "assert f() <> 1", "assert f() == 1-1", "assert f() == --1", "assert f() == 1-", "assert f() == +1",
                    'assert f() == ""a', 'assert f() == "a""', 'assert f() == "a', 'assert f() == a"', "assert f() == 'a'",
                    'assert f() == "A"', 'assert f() == "a1"', 'assert f() == "a\\"', 'call f("a"")', 'call f(""")'):
            self.refuse_row(row)

    def test_empty_lines(self):
        self.refuse("", 0)
        self.refuse("\n", 0)
        self.refuse(" \ntest t\nend", 0)
        self.refuse("test t\nend\n", 2)
        self.refuse("test t\nend\n ", 2)
        self.refuse_row("")
        self.refuse_row("   ")
        self.refuse_row("pass", "")


class Rows(Base):
    def test_each_row_with_one_token_less_more_or_other(self):
        rows = (
            "pass", "call f ( 1 )", "let x = f ( )", "fail", "return", "skip", "set a", "clear a", "assert f ( )",
            "assume f ( )", 'assert ( f ( ) , "ab" )', "assert on a", "assert len ( f ( ) ) == 1", "assert 1 in f ( )",
            "assert f ( ) [ 0 ] is none", "assert not f ( ) == [ 1 , 2 ] and f ( ) < 3 or f ( )",
        )
        others = ("=", "==", "(", ")", "[", "]", ",", "<", "f", "Error", "7", '"ab"', "none", "not", "and", "in", "end", "on")
        for row in rows:
            tokens = row.split(" ")
            self.row(row)
            for at in range(len(tokens) + 1):
                changed = [tokens[:at] + [other] + tokens[at:] for other in others]
                changed += [tokens[:at] + [other] + tokens[at + 1:] for other in others if at < len(tokens)]
                changed += [tokens[:at] + tokens[at + 1:]] if at < len(tokens) else []
                for line in {" ".join(line) for line in changed}:
                    # Few of them are another row that can stand.
                    refused = plain_test(f"test t\n{line}\nend", ("Error",))
                    if refused == 1:
                        self.refuse_row(line)
                    elif line != "end":
                        self.row(line)

    def test_no_rows(self):
        for word in KEYWORDS + ["passes", "p", "Pass", "PASS", "f", "f ( )", "x = f ( )", "7", "(", "Error", '"a"']:
            self.refuse_row(word + " x y")
        for word in set(KEYWORDS) - {"pass", "fail", "return", "skip", "try", "end"}:
            self.refuse_row(word)
        for row in ("test s", "error Full", "under Error", "assert", "assume", "call", "let", "set", "for", "if", "raises"):
            self.refuse_row(row)

    def test_first_and_last_line(self):
        for line in ("", "test", "test t t", "Test t", "tests t", "t", "test t end", "end", "pass", "test t = f()", "test (t)"):
            self.refuse(line, 0)
            self.refuse(line + "\nend", 0)
        for line in ("end t", "end end", "ends", "End", "end ("):
            self.refuse_row(line)
        for more in ("end", "pass", "", "test s", "!", "end\nend"):
            self.refuse("test t\nend\n" + more, 2)

    def test_names(self):
        places = (
            "call {}()", "let {} = f()", "let x = {}()", "set {}", "clear {}", "assert {}()", "assume {}() == 1", "assert on {}",
            "assert len({}()) == 1", "assert 1 in {}()", 'assert (not {}(), "")',
        )
        for place in places:
            for name in ("a", "z", "abcdefghijkl", "zzzzzzzzzzzz", "ands", "an", "word" + "s", "with", "type"):
                self.assertEqual(self.row(place.format(name)), place.format(name))
            for name in NO_NAMES:
                if name != "f()":
                    self.refuse_row(place.format(name))
        for name in NO_NAMES:
            self.refuse(f"test {name}\nend", 0)
            self.refuse_row("let x = f()", f"for {name} in x")
            self.refuse_row(f"for {name} in f()")
            if name not in ("f()", "\"a\"") and name not in ("1", "0", "-1"):
                self.refuse_row("let x = f()", f"assert {name}")
            self.refuse_row("let x = f()", f"for y in {name}") if name != "f()" else None
        for name in ("a", "abcdefghijkl", "t", "f"):
            self.assertEqual(Test.read(f"test {name}\nend", PLAIN).name, name)
            self.accept(f"for {name} in f()", f"assert {name}", "end")

    def test_names_are_of_four_kinds(self):
        self.accept("let t = t()", "set t", "assert t and t() and on t", "for f in t", "assert f and on f", "end", "set f")
        self.accept("let f = f()", "assert f[0] == 1 and f()[0] == 1", "let g = f()", "assert len(f) == 1 and len(f()) == 1")


class Conditions(Base):
    def test_every_form(self):
        for subject in ("f()", 'put("ab", -3)', "x", "f()[0]", "f()[9]", "f()[-1]", "x[0]", "x[5]", "x[-1]"):
            atoms = [subject]
            atoms += [f"{subject} {sign} {number}" for sign in SIGNS for number in ("0", "7", "-7", "9" * 30, "-" + "9" * 30)]
            atoms += [f"{subject} {sign} {constant}" for sign in ("==", "!=") for constant in (
                "none", '""', '"a"', '"abcdefgh"', "[]", "[none]", "[1, 2]", '["a", -1, none, 4, 5, 6]')]
            atoms += [f"{subject} is {kind}" for kind in ("none", "number", "word", "list")]
            if not subject.endswith("]"):
                atoms += [f"len({subject}) {sign} {number}" for sign in SIGNS for number in (0, 1, 19, 20)]
                atoms += [f"{constant} in {subject}" for constant in ("none", "0", "-12", '"abcdefgh"', '""')]
            for atom in atoms:
                for form in ("assert {}", "assume {}", "assert not {}", 'assert ({}, "")', "assert {} and not on a",
                             "assert on a or {}"):
                    self.assertEqual(self.row(form.format(atom), "let x = f()"), form.format(atom))

    def test_wrong_forms(self):
        wrong = """
            1 / "a" / none / [] / [1] / 1 == f() / [1] == f() / 1 == 1 / none is none / f() == g() / f() == x / x == x / y
            f() == / == 1 / f() = 1 / f() 1 / f() [0] [0] / x[0][0] / x[] / x[10] / x[-2] / x[-0] / x[00] / x[01] / x[1, 2]
            x["a"] / x[none] / x[x] / x[0 / x 0] / x(0 / x0 / f[0] / f / f( / f) / f()() / f(x) / f(f()) / f([1]) / f(,) / f(1,)
            f(,1) / f(1 2) / f(1, 2, 3, 4) / f(1,, 2) / f(none none) / f(word) / f(on) / f(-) / f("a" "b") / f(00) / f(-0)
            f(01) / f() < none / f() < "a" / f() <= "" / f() > [1] / f() >= [] / f() < x / f() == word / f() == [1, 2, 3, 4, 5, 6, 7]
            f() == [1 2] / f() == [,] / f() == [1,] / f() == [,1] / f() == [[1]] / f() == [f()] / f() == [x] / f() == [1
            f() == 1] / f() == [1)] / f() == (1) / f() is / f() is not none / f() is x / f() is "a" / f() is 1 / f() is [1]
            f() is None / f() is error / f() is words / f() is list == 1 / len f() == 1 / len() == 1 / len(f()) / len(f() == 1)
            len(f()) == 21 / len(f()) == -1 / len(f()) == none / len(f()) == "a" / len(f()) == [1] / len(f()) is none / len(f()) 1
            len(x[0]) == 1 / len(f()[0]) == 1 / len(1) == 1 / len("a") == 1 / len(y) == 1 / len(x) = 1 / len(x) == 020
            len(on a) == 1 / len(len(x)) == 1 / len(x)[0] == 1 / 1 in / in x / 1 in 1 / x in x / f() in x / [1] in x / 1 in x[0]
            1 in f()[0] / 1 in y / 1 not in x / 1 in x == 1 / 1 in [1] / 00 in x / "abcdefghi" in x / on / on 1 / on a b / on "a"
            on a == 1 / on x() / on a[0] / not / not not f() / not not on a / not 1 / f() not / f() and / and f() / f() or
            or f() / f() and or f() / f() f() / f() and not / f(), "a" / (f()) / (f(), ) / (f(), "a" / f(), "a") / ((f(), "a"))
            (f(), a) / (f(), 1) / (f(), none) / (f(), "a", "b") / (f() "a") / (f(), "abcdefghi") / (, "a") / ("a", f())
            ("a") / () / (f(), "a") or f() / not (f(), "a") / f() == 1000000000000000000000000000000 / f() == 007 / f() == "abcdefghi"
            (f() and g()) or f() / f() and (g()) / f() == 1 == 1 / f() < 1 < 2 / f() is none is none / -f() / x.a / x is X
        """
        for line in wrong.split("\n"):
            for condition in filter(None, (piece.strip() for piece in line.split(" / "))):
                self.refuse_row("let x = f()", "assert " + condition)
                self.refuse_row("let x = f()", "if " + condition)
                self.refuse_row("let x = f()", f'assert ({condition}, "a")')
                self.refuse_row("let x = f()", "assume " + condition)
        for row in ('assume (f(), "a")', 'if (f(), "a")', "assert (f())", 'assert (f(), "a") pass', 'assert not (f(), "a")'):
            self.refuse_row(row)

    def test_numbers_and_strings_at_their_ends(self):
        fine = ("0", "9", "-9", "1" + "0" * 29, "9" * 30, "-" + "9" * 30, '""', '"abcdefgh"')
        wrong = ("-0", "00", "01", "-01", "9" * 31, "1" + "0" * 30, "-" + "9" * 31, "1" * 5000, "0" * 3000, '"abcdefghi"',
                 '"' + "a" * 3000 + '"')
        for place in ("call f({})", "call f(1, {})", "let y = f(1, 2, {})", "assert f() == {}", "assert f() != [{}]",
                      "assert f() == [1, 2, 3, 4, 5, {}]", "assert {} in f()", "assert {} in x", "assert f({}) is none"):
            for text in fine:
                self.assertEqual(self.row(place.format(text), "let x = f()"), place.format(text))
            for text in wrong:
                self.refuse_row("let x = f()", place.format(text))
        for text in wrong:
            for row in (f"assert x[{text}]", f"assert len(x) == {text}", f"assert x < {text}", f"set {text}", f"{text}"):
                self.refuse_row("let x = f()", row)
        for string in ('""', '"a"', '"abcdefgh"'):
            self.accept(f"assert (f(), {string})")

    def test_indexes_and_lengths(self):
        for index in range(-3, 13):
            row = f"assert f()[{index}] == 1"
            (self.row if -1 <= index <= 9 else self.refuse_row)(row)
        for length in (*range(-2, 23), 10 ** 29, 10 ** 30):
            row = f"assert len(f()) <= {length}"
            (self.row if 0 <= length <= 20 else self.refuse_row)(row)

    def test_numbers_of_constants(self):
        for many in range(9):
            constants = ", ".join(["none"] * many)
            (self.row if many <= 3 else self.refuse_row)(f"call f({constants})")
            (self.row if many <= 6 else self.refuse_row)(f"assert f() == [{constants}]")
        self.refuse_row("call f(" + "1, " * 5000 + "1)")

    def test_numbers_of_atoms(self):
        for many in range(1, 9):
            for signs in itertools.product((" and ", " or "), repeat=min(many - 1, 2)):
                row = "assert " + "".join("f()" + signs[at % len(signs)] for at in range(many - 1)) + "not f()"
                (self.row if many <= 6 else self.refuse_row)(row)
            row = " or ".join(["on a"] * many)
            (self.row if many <= 6 else self.refuse_row)("assume " + row)
            (self.row if many <= 6 else self.refuse_row)(f'assert ({row}, "a")')
        self.refuse_row("assert " + "f() and " * 3000 + "f()")

    def test_conditions_in_a_loop(self):
        loop = ("let y = f()", "for x in f()")
        for atom in ("x", "not x", "x == 1", "x != none", 'x == "a"', "x == [1]", "x != []", "x < 1", "x is list", "on a",
                     "x is none or x > 3 and not on x"):
            for row in ("assert " + atom, "assume " + atom, f'assert ({atom}, "a")'):
                self.accept(*loop, row, "end")
                self.accept(*loop, "try", row, "except Error", "end", "end")
            self.accept(*loop, "if " + atom, "if " + atom, "end", "end", "end")
        for atom in ("y", "f()", "y == 1", "f() == 1", "x[0]", "x[0] == 1", "len(x) == 1", "len(y) == 1", "1 in x", "1 in y",
                     "1 in f()", "len(f()) == 1", "x()", "x and y", "z", "on a and f()", "x < none", "x == y", "y[0] == 1"):
            self.refuse_row(*loop, "assert " + atom)
            self.refuse_row(*loop, "if x", "try", "assume " + atom)
            self.refuse_row(*loop, "raises Error", "if " + atom)


class Structure(Base):
    def test_numbers_of_lines(self):
        for many in (0, 1, 20, 37, 38):
            self.assertEqual(len(self.accept(*["pass"] * many)), many + 2)
        for many in (39, 40, 60):
            self.refuse("\n".join(["test t", *["pass"] * many, "end"]), 40)
        self.refuse("\n".join(["test t", *["pass"] * 39]), 40)
        self.refuse("\n".join(["test t", *["pass"] * 39, "!", "!"]), 40)
        self.refuse("\n".join(["test t", *["pass"] * 38, "!", "!"]), 39)
        self.refuse("\n".join(["test t", *["pass"] * 38]), 39)
        self.refuse("\n".join(["test t", *["pass"] * 38, "end", ""]), 40)

    def test_texts_that_end_too_early_or_go_on(self):
        rows = ["raises Error", "let x = f()", "if x", "call f()", "else", "try", "pass", "except Misuse", "for y in x",
                "break", "end", "else", "end", "end", "end"]
        self.accept(*rows)
        lines = ["test t", *rows, "end"]
        for many in range(1, len(lines)):
            self.refuse("\n".join(lines[:many]), many)
            self.refuse("\n".join(lines[:many] + ["!"] + lines[many:]), many)
        for more in ("end", "pass", "test t", "else", "", "!"):
            self.refuse("\n".join(lines + [more]), len(lines))

    def test_depth(self):
        blocks = {"raises Error": ["end"], "if f()": ["end"], "try": ["except Error", "end"], "if on a": ["else", "end"]}
        for head, tail in blocks.items():
            for deep in range(8):
                rows = [head] * deep + ["pass"] + tail * deep
                if deep <= 6:
                    test = self.accept(*rows)
                    self.assertEqual(test[deep + 1], "  " * (deep + 1) + "pass")
                else:
                    self.refuse("\n".join(["test t", *rows, "end"]), 7)
        for deep in range(8):
            rows = ["if on a"] * deep + ["for x in f()", "pass", "end"] + ["end"] * deep
            (self.accept if deep <= 5 else self.refuse_row)(*rows[:len(rows) if deep <= 5 else 7])
        inner = ["for x in f()", *["try"] * 5]
        self.accept(*inner, "break", *["except Error", "end"] * 5, "end")
        self.refuse_row(*inner, "if x")
        self.accept(*["if on a", "end"] * 10)

    def test_else_except_and_end(self):
        self.accept("if f()", "end")
        self.accept("if f()", "else", "end")
        self.accept("if f()", "pass", "else", "pass", "end", "pass")
        self.accept("try", "except Error", "end")
        self.accept("try", "pass", "except Error", "pass", "except Error", "except Misuse", "else", "pass", "end")
        self.accept("for x in f()", "if x", "else", "end", "end")
        for rows in (("else",), ("except Error",), ("if f()", "except Error"), ("if f()", "else", "else"),
                     ("if f()", "else", "except Error"), ("try", "end"), ("try", "else"), ("try", "pass", "end"),
                     ("try", "pass", "else"), ("try", "except Error", "else", "else"), ("try", "except Error", "else", "except Error"),
                     ("raises Error", "else"), ("raises Error", "except Error"), ("for x in f()", "else"),
                     ("for x in f()", "except Error"), ("try", "if f()", "except Error"), ("if f()", "try", "else"),
                     ("if f()", "end", "else"), ("try", "except Error", "end", "except Error"), ("if f()", "else f()"),
                     ("if f()", "else if f()"), ("try pass",), ("try Error",), ("if f()", "end f"), ("try", "except"),
                     ("try", "except Error Error"), ("try", "except Error from Error"), ("try", "except none"),
                     ("try", "except Error, Misuse"), ("try", "raises Error", "end", "end")):
            self.refuse_row(*rows)

    def test_classes(self):
        for name in ("Error", "Failed", "Misuse", "Beyond", "Full", "Heap", "A", "Abcdefghijkl"):
            known = name in PLAIN
            for rows in ((f"raises {name}",), (f"raises {name} from Error",), (f"raises Error from {name}",),
                         ("try", f"except {name}"), ("try", "except Error", f"except {name}"),
                         ("for x in f()", f"raises {name}")):
                test = read(*rows, *["end"] * sum(row.startswith(("raises", "try", "for")) for row in rows), family=FULL)
                self.assertEqual(test[len(rows)].strip(), rows[-1])
                if not known:
                    self.refuse_row(*rows)
        for name in ("error", "full", "Ful", "Fuller", "FULL", "Abcdefghijklm", "none", '"Full"', "1", "", "f", "Full1", "F_ull"):
            for rows in ((f"raises {name}",), (f"raises {name} from Error",), (f"raises Error from {name}",),
                         ("try", f"except {name}")):
                self.refuse_row(*rows, family=FULL)
        for row in ("raises", "raises Error from", "raises from Error", "raises Error Error", "raises Error from Error Error",
                    "raises Error, Misuse", "raises Error under Error", "raises (Error)", "raises Error()"):
            self.refuse_row(row)

    def test_flags(self):
        test = self.accept("set c", "clear a", "assert on b and not on a", "if on c", "set b", "end")
        self.assertEqual(test.flags, ("a", "b", "c"))
        self.assertEqual(self.accept("set a").flags, ("a",))
        self.assertEqual(self.accept('assert (on z or on b, "")', "for x in f()", "clear x", "end").flags, ("b", "x", "z"))
        for fourth in ("set d", "clear d", "assert on d", "assume f() or on a and on d", 'assert (on d, "a")', "if on d"):
            self.refuse_row("set c", "clear a", "assert on b", fourth)
            self.refuse_row("set c", "for x in f()", "clear a", "assert on b and x", fourth.replace("f()", "x"))
        self.refuse_row("set a", "set b", "assert on c and on d")
        self.refuse_row("set a", "assert on b and on c or on d")
        self.accept("set a", "assert on b and on c or on a")
        self.refuse_row("assert on a and on b and on c and on d")

    def test_visible_names(self):
        use, give, loop = "assert x", "let x = f()", "for x in f()"
        self.accept(give, use)
        self.accept(give, "if x", use, "try", use, "except Error", use, "else", use, "end", "else", use, "end", use)
        self.accept("if f()", give, use, "else", give, use, "end", give, use)
        self.accept("try", give, use, "except Error", give, use, "except Error", give, "else", give, use, "end", loop, use, "end")
        self.accept("raises Error", give, use, "end", loop, "assert x", "end", loop, "end", give)
        self.accept(loop, "end", give, "for y in x", "end")
        self.accept(give, "for y in x", "end", "let y = x()", "assert y")
        for rows in ((use,), ("if f()", give, "else", use), ("if f()", give, "end", use), ("try", give, "except Error", use),
                     ("try", "except Error", give, "except Error", use), ("try", "except Error", give, "else", use),
                     ("try", "except Error", "else", give, "end", use), ("raises Error", give, "end", use),
                     (loop, "end", use), (give, give), (give, loop), (give, "if f()", give), (give, "try", "except Error", loop),
                     (give, "raises Error", "if f()", "else", give), ("let x = x", ), ("let x = y",), (give, "let y = x"),
                     ("for x in x",), (give, "for x in x"), ("for y in x",), (give, "call x"), ("if f()", give, "end", "for y in x"),
                     ("raises Error", give, "end", "assume 1 in x")):
            self.refuse_row(*rows)

    def test_what_stands_in_a_loop(self):
        for around in ((), ("if x",), ("try",), ("raises Error",), ("try", "except Error"), ("if x", "else"),
                       ("try", "except Error", "else"), ("raises Error", "try", "if on a")):
            opened = sum(row.split()[0] in ("if", "try", "raises") for row in around)
            head = ("for x in f()", *around)
            tail = [["except Error"] if around[-1:] == ("try",) else [], ["end"] * opened, ["end"]]
            if around != ("raises Error", "try", "if on a"):
                for row in ("pass", "fail", "return", "skip", "set x", "clear a", "break", "continue", "assert x", "assume x",
                            'assert (x, "a")'):
                    self.accept(*head, row, *tail[0], *tail[1], *tail[2])
            for row in ("call f()", "let y = f()", "for y in f()", "let x = f()", "call x()", "for y in x", "assert f()"):
                self.refuse_row(*head, row)
        for rows in ((), ("if f()",), ("try",), ("for x in f()", "end"), ("raises Error", "for x in f()", "end")):
            self.refuse_row(*rows, "break")
            self.refuse_row(*rows, "continue")
        for row in ("break x", "continue 1", "break break"):
            self.refuse_row("for x in f()", row)
        for row in ("for x", "for x in", "for x f()", "for in f()", "for x in 1", "for x in f()[0]", "for x in f() f()",
                    "for x, y in f()", "for x in f", "for x in [1]", "for x = f()", "for x() in f()", "for x in none"):
            self.refuse_row(row)


class Written(Base):
    ROWS = ("let x = f(1)", "try", 'assert (f(1) == [1, none], "words")', "raises Full from Error", "fail", "end",
            "except Heap", "for y in x", "if y > -3 and not on b", "assert y", "else", "set b", "end", "end", "else",
            "assume len(x) <= 2", "end", 'assert not f(3, "ab")[0] == 7 or 2 in x and len(f()) > 1', "assert on c")
    FORM = (
        "test t", "  let x = f(1)", "  try", '    assert (f(1) == [1, none], "words")', "    raises Full from Error",
        "      fail", "    end", "  except Heap", "    for y in x", "      if y > -3 and not on b", "        assert y",
        "      else", "        set b", "      end", "    end", "  else", "    assume len(x) <= 2", "  end",
        '  assert not f(3, "ab")[0] == 7 or 2 in x and len(f()) > 1', "  assert on c", "end",
    )

    def setUp(self):
        self.test = read(*self.ROWS, family=FULL)

    def test_lines(self):
        self.assertEqual(str(self.test), "\n".join(self.FORM))
        self.assertEqual([self.test[line] for line in range(len(self.test))], list(self.FORM))
        self.assertEqual(len(self.test), 21)
        self.assertEqual(self.test.name, "t")
        self.assertEqual(self.test.family, FULL)

    def test_what_it_mentions(self):
        self.assertEqual(self.test.calls(), ["f()", "f(1)", 'f(3, "ab")'])
        self.assertEqual(self.test.checks(), [3, 5, 10, 18, 19])
        self.assertEqual(self.test.flags, ("b", "c"))
        self.assertIsInstance(self.test.flags, tuple)
        rows = ["call g(2)", "let x = f()", "assert 1 in h() and len(a()) == 0", "for y in b(1)", "end", "if z(10)[0] < 3", "end",
                "assume not x or c() is none", 'assert (d() == [1], "")', "call z(2)", "call z(10)", "call g(-1)"]
        self.assertEqual(self.accept(*rows).calls(), ["a()", "b(1)", "c()", "d()", "f()", "g(-1)", "g(2)", "h()", "z(10)", "z(2)"])

    def test_lists_are_new(self):
        self.test.calls().append("g()")
        self.test.checks().clear()
        self.assertEqual(self.test.calls(), ["f()", "f(1)", 'f(3, "ab")'])
        self.assertEqual(self.test.checks(), [3, 5, 10, 18, 19])

    def test_equality(self):
        again = Test.read(str(self.test), FULL)
        self.assertEqual(again, self.test)
        self.assertTrue(again == self.test and not again != self.test)
        self.assertEqual(read(*[" " + row.replace(" ", "  ") + " " for row in self.ROWS], family=Family(FULL.declared)), again)
        self.assertNotEqual(read("pass"), read("pass", family=FULL))
        self.assertNotEqual(read("pass"), Test.read("test s\npass\nend", PLAIN))
        for one, other in (("pass", "skip"), ("set a", "set b"), ("call f()", "call f(1)"), ("assert f() == 1", "assert f() == 2"),
                           ("assert f() == 1", "assert f() != 1"), ("assert f()", 'assert (f(), "")'), ("assert f()", "assume f()"),
                           ('assert (f(), "")', 'assert (f(), "a")')):
            self.assertNotEqual(read(one), read(other))
            self.assertEqual(read(one), read(one))
        for other in (str(self.test), None, 0, [], list(self.FORM), PLAIN, FULL):
            self.assertFalse(self.test == other)
            self.assertTrue(self.test != other)

    def test_spaces_of_the_written_form(self):
        for row in ("call f()", 'call f(1, "", none)', "let x = f()", "raises Error from Beyond", "if not f()[-1] is none",
                    'assert (1 in f(), "")', "assert f() == [] or f()[0] != [1, 2] and len(f(-1)) <= 20", "for x in f()", "assume on a"):
            ends = ["end"] if row.split()[0] in ("raises", "if", "for") else []
            for text in (row, row.replace("(", " ( ").replace(")", " ) ").replace("[", " [ ").replace(",", " , ")):
                self.assertEqual(read(text, *ends)[1], "  " + row)


class Changed(Base):
    ROWS = ("assert f() == 1 or not on a", 'assert (g(), "ab")', "fail", "raises Error", "for x in f()", "assert x is none",
            "fail", 'assert (x, "")', "end", "end", "pass", "assert f()")
    CHANGES = {
        1: ('  assert (f() == 1 or not on a, "")', "  skip", "  assume f() == 1 or not on a"),
        2: ('  assert (g(), "ab")', "  skip", '  assert (g(), "ab")'),
        3: ("  pass", "  skip", "  skip"),
        6: ('      assert (x is none, "")', "      skip", "      assume x is none"),
        7: ("      pass", "      skip", "      skip"),
        8: ('      assert (x, "")', "      skip", '      assert (x, "")'),
        12: ('  assert (f(), "")', "  skip", "  assume f()"),
    }

    def setUp(self):
        self.test = read(*self.ROWS, family=FULL)

    def test_each_check(self):
        self.assertEqual(self.test.checks(), list(self.CHANGES))
        before = str(self.test)
        for line, expected in self.CHANGES.items():
            made = (self.test.softened(line), self.test.stopped(line=line), self.test.biting(line))
            for test, text in zip(made, expected):
                lines = before.split("\n")
                lines[line] = text
                self.assertIsInstance(test, Test)
                self.assertEqual(str(test), "\n".join(lines))
                self.assertEqual(test, Test.read("\n".join(lines), FULL))
                self.assertEqual(test.family, FULL)
        self.assertEqual(str(self.test), before)
        self.assertEqual(self.test.checks(), list(self.CHANGES))

    def test_what_is_not_there_any_more(self):
        test = self.test.stopped(1)
        self.assertEqual((test.flags, test.checks()), ((), [2, 3, 6, 7, 8, 12]))
        self.assertEqual(self.test.stopped(2).calls(), ["f()"])
        self.assertEqual(self.test.softened(1).checks(), self.test.checks())
        self.assertEqual(self.test.softened(3).checks(), [1, 2, 6, 7, 8, 12])
        self.assertEqual(self.test.biting(1).flags, ("a",))

    def test_long_conditions(self):
        condition = " or ".join(["not f()[-1] == [1, 2, 3, 4, 5, 6]"] * 6)
        test = read("assert " + condition)
        self.assertEqual(test.softened(1)[1], f'  assert ({condition}, "")')
        self.assertEqual(test.biting(1)[1], "  assume " + condition)

    def test_lines_of_no_check(self):
        for line in (0, 4, 5, 9, 10, 11, 13, 14, 40, -1, -2, -13, 10 ** 30, True):
            for change in (self.test.softened, self.test.stopped, self.test.biting):
                with self.assertRaises(NoCheck) as caught:
                    change(line)
                self.assertEqual(caught.exception.line, line)


if __name__ == "__main__":
    unittest.main()

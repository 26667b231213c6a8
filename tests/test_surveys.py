"""Surveys: alike answers (point 16) and least answers (points 6 and 17)."""

import unittest

from whatpasses.answers import ascending
from whatpasses.errors import NoCall, OtherFamily
from whatpasses.families import Family
from whatpasses.reading import Test
from whatpasses.surveys import Survey

FAMILY = Family([("Full", None), ("Heap", "Full"), ("Flat", "Beyond")])
NO_CALLS = (None, 0, True, "", "f", "f( )", "g()", ["f()"], ("f()",), [[]], ("raises", "Error", None))
VALUES = (None, 0, 1, -1, 2, 5, 7, "", "a", "ab", [], [None], [0], [1], [5], ["a"], [5, 0], [0, 5], [1, 2, 3])


def test(name, *rows, family=FAMILY):
    return Test.read("\n".join(["test " + name, *rows, "end"]), family)


def survey(*rows):
    return Survey([test("t", *rows)])


def error(kind, cause=None):
    return ("raises", kind, cause)


class Making(unittest.TestCase):
    def test_other_families(self):
        a, b, c = test("a"), test("b", family=Family([("Full", None)])), test("c", family=Family.plain())
        for at, tests in ((1, [a, b]), (1, (b, a)), (2, [a, a, c, b]), (3, [c, c, c, a])):
            with self.assertRaises(OtherFamily) as caught:
                Survey(tests)
            self.assertEqual(caught.exception.at, at)
        Survey(tests=[a, test("a", family=Family(list(FAMILY.declared)))])

    def test_calls(self):
        tests = [test("a", "call g(1)", "let x = f()", "assert x == 1"), test("b", "if f()", "end", "for y in f(2)", "end"),
                 test("c", "return", "assert h(\"\", none, -1)[0]"), test("d", "pass")]
        self.assertEqual(Survey(tests).calls(), ["f()", "f(2)", "g(1)", 'h("", none, -1)'])
        self.assertEqual(Survey(tuple(tests)).calls(), Survey(tests[::-1]).calls())
        self.assertEqual(Survey([]).calls(), [])
        self.assertEqual(Survey([tests[3]]).calls(), [])
        found = Survey(tests)
        found.calls().clear()
        self.assertEqual(len(found.calls()), 4)

    def test_values_that_are_no_call_of_the_tests(self):
        for found in (survey("call f()", "call f(1)"), survey(), Survey([])):
            for call in NO_CALLS + (("f()",) if found.calls() == [] else ()):
                for ask in (lambda: found.answers(call), lambda: found.least(call, 1), lambda: found.alike(call, 1, 2)):
                    with self.assertRaises(NoCall) as caught:
                        ask()
                    self.assertIs(caught.exception.text, call)

    def test_the_list_changed_behind_the_survey(self):
        tests = [test("a", "assert f() == 1")]
        found = Survey(tests)
        tests.append(test("b", "assert f() == 2 and g()"))
        self.assertEqual(found.calls(), ["f()"])
        self.assertEqual(found.answers("f()"), [None, 1, error("Error")])
        tests.clear()
        self.assertTrue(found.alike("f()", 2, 3))

    def test_what_is_returned_is_new(self):
        found = survey("assert f() == [1, 2]")
        found.answers("f()")[-1].append(3)
        found.answers("f()").clear()
        self.assertEqual(found.answers("f()"), [None, error("Error"), [1, 2]])
        given = [1, 2]
        found.least("f()", given).append(3)
        self.assertEqual((given, found.least("f()", given)), ([1, 2], [1, 2]))
        self.assertIsNot(found.least("f()", given), given)

    def test_by_name(self):
        found = Survey(tests=[test("t", "assert f() == 1")])
        self.assertEqual(found.answers(call="f()"), [None, 1, error("Error")])
        self.assertEqual(found.least(call="f()", answer=7), None)
        self.assertIs(found.alike(call="f()", one=7, other=None), True)


class Alike(unittest.TestCase):
    """Each case: a way to ask, and what it says of a value, so that values with the same are alike."""

    def compare(self, rows, says, kinds=(False, True)):
        for named in kinds:
            asked = ["let v = f()", *[row.replace("f()", "v") for row in rows]] if named else rows
            found = survey(*asked)
            for one in VALUES:
                for other in VALUES:
                    self.assertIs(found.alike("f()", one, other), says(one) == says(other), (asked, one, other))
                self.assertFalse(found.alike("f()", one, error("Error")))
                self.assertFalse(found.alike("f()", error("Misuse"), one))

    def atom(self, atom, says):
        for row in (f"assert {atom}", f"assume not {atom}", f'assert ({atom}, "")'):
            self.compare([row], says)
        self.compare(["return", f"if on a or {atom}", "end"], says)

    def test_calls_alone(self):
        self.compare(["call f()"], lambda value: 0, (False,))
        self.compare(["let x = f()"], lambda value: 0, (False,))

    def test_subjects(self):
        self.atom("f()", lambda value: value not in (None, 0, "", []))

    def test_equal_and_not(self):
        for text, constant in (("none", None), ("1", 1), ("-1", -1), ('"a"', "a"), ('""', ""), ("[]", []), ("[5, 0]", [5, 0])):
            self.atom(f"f() == {text}", lambda value: value == constant)
            self.atom(f"f() != {text}", lambda value: value == constant)

    def test_orders(self):
        for sign, holds in (("<", int.__lt__), ("<=", int.__le__), (">", int.__gt__), (">=", int.__ge__)):
            self.atom(f"f() {sign} 2", lambda value: holds(value, 2) if isinstance(value, int) else "Misuse")

    def test_kinds(self):
        for word, kind in (("none", type(None)), ("number", int), ("word", str), ("list", list)):
            self.atom(f"f() is {word}", lambda value: isinstance(value, kind))

    def test_indexes(self):
        def at(index, says):
            def there(value):
                if not isinstance(value, list):
                    return "Misuse"
                return says(value[index]) if len(value) > index + (index < 0) else "Beyond"
            return there

        for index in (0, 1, 9, -1):
            self.atom(f"f()[{index}]", at(index, lambda item: item not in (None, 0, "")))
            self.atom(f"f()[{index}] == 5", at(index, lambda item: item == 5))
            self.atom(f"f()[{index}] == [5]", at(index, lambda item: False))
            self.atom(f"f()[{index}] is word", at(index, lambda item: isinstance(item, str)))
            # Misuse for an item that is no number is the same as Misuse for what is no list.
            self.atom(f"f()[{index}] < 5", at(index, lambda item: item < 5 if isinstance(item, int) else "Misuse"))

    def test_lengths(self):
        for sign, holds in (("==", int.__eq__), ("!=", int.__ne__), ("<", int.__lt__), (">=", int.__ge__)):
            for number in (0, 1, 2, 20):
                self.atom(f"len(f()) {sign} {number}",
                          lambda value: holds(len(value), number) if isinstance(value, list) else "Misuse")

    def test_members(self):
        self.atom("5 in f()", lambda value: 5 in value if isinstance(value, list) else "Misuse")
        self.atom('"a" in f()', lambda value: "a" in value if isinstance(value, list) else "Misuse")

    def test_several(self):
        self.compare(["assert f() == 1 or f() == 2"], lambda value: value if value in (1, 2) else None)
        self.compare(["assert f()[0] == 5 and g() == 7 and 5 in g()"],
                     lambda value: "Misuse" if not isinstance(value, list) else "Beyond" if value == [] else value[0] == 5)

    def test_names_of_other_calls(self):
        self.compare(["let x = f()", "let y = g()", "assert y == 1 and x == 2 and g()"], lambda value: value == 2,
                     (False,))

    def test_names_that_are_given_twice(self):
        self.compare(["if on a", "let x = g()", "assert x == 1", "end", "if on b", "let x = f()", "assert x == 2", "end"],
                     lambda value: value == 2, (False,))


class Errors(unittest.TestCase):
    ALL = [error(kind, cause) for kind in (*FAMILY.names(), "Odd") for cause in (None, *FAMILY.names(), "Odd", "Odder")]

    def compare(self, rows, says):
        found = survey("call f()", *rows)
        self.assertTrue(all(found.alike("f()", one, other) == (says(one) == says(other)) for one in self.ALL for other in self.ALL))
        least = {}
        for answer in self.ALL:
            least.setdefault(str(says(answer)), answer)
        self.assertEqual(found.answers("f()"), [None, *least.values()], rows)
        for answer in self.ALL:
            self.assertEqual(found.least("f()", answer), least[str(says(answer))])

    def test_no_class(self):
        self.compare([], lambda answer: 0)

    def test_kinds(self):
        def under(*names):
            return lambda answer: [FAMILY.under(answer[1], name) for name in names]

        self.compare(["raises Full", "end"], under("Full"))
        self.compare(["raises Error", "end"], under())
        self.compare(["try", "except Beyond", "except Heap", "except Full", "end"], under("Beyond", "Heap", "Full"))
        self.compare(["return", "raises Misuse", "try", "except Failed", "end", "end"], under("Misuse", "Failed"))

    def test_causes(self):
        def under(answer):
            return [answer[2] is not None and FAMILY.under(answer[2], name) for name in ("Full", "Error")]

        self.compare(["raises Error from Full", "end", "raises Error from Error", "end"], under)
        self.compare(["raises Full from Flat", "end"],
                     lambda answer: (FAMILY.under(answer[1], "Full"), answer[2] == "Flat"))

    def test_a_class_behind_from_is_none_behind_raises(self):
        found = survey("call f()", "raises Error from Full", "end")
        self.assertTrue(found.alike("f()", error("Full"), error("Error")))
        self.assertFalse(found.alike("f()", error("Full", "Heap"), error("Full")))

    def test_classes_of_all_tests_count_for_all_calls(self):
        found = Survey([test("a", "call f()"), test("b", "raises Full from Heap", "call g()", "end")])
        for call in ("f()", "g()"):
            self.assertEqual(len(found.answers(call)), 5)
            self.assertFalse(found.alike(call, error("Heap"), error("Error")))


class Loops(unittest.TestCase):
    def compare(self, rows, says, head="for x in f()"):
        """says is what the block comes to for a list; no value that is no list is told from another."""
        found = survey(*rows) if head is None else survey(head, *rows, "end")
        for one in VALUES:
            for other in VALUES:
                same = [says(value) if isinstance(value, list) else "no list" for value in (one, other)]
                self.assertIs(found.alike("f()", one, other), same[0] == same[1], (rows, one, other))

    def test_lists_and_others(self):
        self.compare([], lambda value: 0)
        self.compare(["pass", "assert (x == 5, \"a\")"], lambda value: 0)
        self.compare(["let v = f()", "for x in v", "end"], lambda value: 0, None)

    def test_ends(self):
        def first(wanted, then):
            def says(value):
                found = [item for item in value if wanted(item)]
                return then if found else None
            return says

        self.compare(["assert x != 5"], first(lambda item: item == 5, "Failed"))
        self.compare(["assume x != 5"], first(lambda item: item == 5, "skips"))
        self.compare(["if x", "return", "end"], first(lambda item: item, "returns"))
        self.compare(["if x", "skip", "else", "continue", "end", "fail"], first(lambda item: item, "skips"))
        # Leaving the block by itself makes no difference.
        self.compare(["if x == 5", "break", "end"], lambda value: 0)
        self.compare(["if x == 5", "break", "end", "assert x != 1"], lambda value: "Failed" if 1 in value else None)
        self.compare(["try", "assert x != 5", "except Failed", "return", "end"], first(lambda item: item == 5, "returns"))
        self.compare(["raises Misuse", "if x < 5", "end", "end"],
                     lambda value: "Failed" if any(isinstance(item, int) for item in value) else None)

    def test_breaking_hides_what_comes_behind(self):
        def says(value):
            for item in value:
                if item == 5:
                    return None
                if item == 0:
                    return "Failed"

        self.compare(["if x == 5", "break", "end", "assert x != 0"], says)

    def test_lines_and_classes(self):
        def says(value):
            for item in value:
                if not isinstance(item, int):
                    return "Misuse"
                if item == 1 or item > 5:
                    return "Failed at the first row"
                if item == 5:
                    return "Failed in the block"

        self.compare(["assert x < 6 and x != 1", "if x == 5", "fail", "end"], says)

    def test_flags(self):
        self.compare(["if x == 5", "set a", "end"], lambda value: 5 in value)
        self.compare(["if x == 5", "set a", "fail", "end"], lambda value: 5 in value)
        # The flag is on or off behind the block, as the last item wants.
        self.compare(["if x == 5", "set a", "else", "clear a", "end"],
                     lambda value: value[-1] == 5 if value else None)
        # The error is raised only if the flag was on before the block.
        self.compare(["if on a and x == 5", "fail", "end"], lambda value: 5 in value)
        self.compare(["set a", "if on b and x == 5", "clear b", "end"], lambda value: (value != [], 5 in value))

    def test_flags_of_errors_and_returns(self):
        for leave in ("fail", "return", "assert x is list"):
            self.compare(["if x == 1", "set a", "end", "if x == 5", leave, "end"],
                         lambda value: (1 in value[:value.index(5)], leave) if 5 in value else 1 in value)
        self.compare(["if x == 1", "set a", "end", "if x == 5", "break", "end"],
                     lambda value: 1 in (value[:value.index(5)] if 5 in value else value))
        # A test that skips is over, whatever its flags are.
        found = survey("for x in f()", "if x == 1", "set a", "end", "if x == 5", "skip", "end", "end")
        self.assertTrue(found.alike("f()", [1, 5], [5]))
        self.assertFalse(found.alike("f()", [1], [2]))

    def test_counting(self):
        rows = ("for x in f()", "if x == 1", "if on b", "set c", "end", "if on a", "set b", "end", "set a", "end", "end",
                "assert on c")
        found = survey(*rows)
        self.assertEqual([answer for answer in found.answers("f()") if isinstance(answer, list)],
                         [[], [1], [1, 1], [1, 1, 1]])
        self.assertEqual(found.least("f()", [0, 1, 2, 1, "a", 1, 1, 1]), [1, 1, 1])

    def test_counting_to_seven(self):
        rows = ("for x in f()", "if x", "if on a and on b", "set c", "end", "if on a", "if on b", "clear b", "else", "set b",
                "end", "clear a", "else", "set a", "end", "end", "end", "assert on a and on b and on c")
        found = survey(*rows)
        lists = [answer for answer in found.answers("f()") if isinstance(answer, list)]
        self.assertEqual(lists, [[1] * many for many in range(8)])
        self.assertEqual(found.least("f()", [3] * 11), [1] * 7)
        self.assertEqual(found.least("f()", [3, 0] * 4), [1] * 4)

    def test_loops_of_several_tests(self):
        found = Survey([test("a", "for x in f()", "assert x != 1", "end"), test("b", "let y = f()", "for z in y", "assume z", "end")])
        self.assertEqual(found.answers("f()"), [None, error("Error"), [], [None], [1], [None, 1]])

    def test_loops_over_other_calls(self):
        found = survey("for x in g()", "assert x == 1", "end", "call f()")
        self.assertEqual(found.answers("f()"), [None, error("Error")])


class Least(unittest.TestCase):
    def test_the_example(self):
        found = survey("for x in f(1)", "assert x > 4", "end")
        self.assertEqual(found.answers("f(1)"), [None, error("Error"), [], [None], [0]])
        self.assertEqual(found.least("f(1)", [5]), [])
        self.assertEqual(found.least("f(1)", [5, 0]), [0])

    def test_numbers_far_from_each_other(self):
        many = 10 ** 30 - 1
        for sign, least in (
            ("==", [None, many]), ("!=", [None, many]), ("<", [None, 0, many]), ("<=", [None, 0, many + 1]),
            (">", [None, 0, many + 1]), (">=", [None, 0, many]),
        ):
            self.assertEqual(survey(f"assert f() {sign} {many}").answers("f()"), [*least, error("Error")])
        for sign, least in (
            ("==", [None, -many]), ("!=", [None, -many]), ("<", [None, 0, -many - 1]), ("<=", [None, 0, -many]),
            (">", [None, 0, -many]), (">=", [None, 0, -many - 1]),
        ):
            self.assertEqual(survey(f"assert f() {sign} -{many}").answers("f()"), [*least, error("Error")])

    def test_numbers_near_each_other(self):
        many = 10 ** 29
        found = survey(f"assert f() > {many} and f() < {many + 2} and f() != {many + 1}", f"assert f() >= {many + 4}")
        self.assertEqual(found.answers("f()"), [None, 0, many + 1, many + 2, many + 4, error("Error")])
        self.assertEqual(found.least("f()", many + 3), many + 2)
        self.assertEqual(found.least("f()", 10 ** 39), many + 4)
        self.assertEqual(found.least("f()", -10 ** 39), 0)

    def test_the_nearer_side_of_zero(self):
        self.assertEqual(survey("assert f()").answers("f()"), [None, 1, error("Error")])
        self.assertEqual(survey("assert f() is number and f()").answers("f()"), [None, 0, 1, "a", error("Error")])
        self.assertEqual(survey("assert f() != 0 and f() != 1 and f() is number").answers("f()"), [None, 0, 1, -1, error("Error")])
        self.assertEqual(survey("assert f() > -1 and f() < 2 and f() != 0").answers("f()"), [None, 0, 1, -1, 2, error("Error")])
        self.assertEqual(survey("assert f() < -3").answers("f()"), [None, 0, -4, error("Error")])
        self.assertEqual(survey("assert f() < 0 and f() != -1 and f() != -2").answers("f()"), [None, 0, -1, -2, -3, error("Error")])
        self.assertEqual(survey("assert f() > 4 and f() != 5 and f() != 6").answers("f()"), [None, 0, 5, 6, 7, error("Error")])

    def test_words(self):
        self.assertEqual(survey('assert f() == "a" or f() is word').answers("f()"), [None, "", "a", error("Error")])
        self.assertEqual(survey('assert f() == "" or f() is word').answers("f()"), [None, "", "a", error("Error")])
        self.assertEqual(survey('assert f() == "" or f() == "a" or f() is word').answers("f()"), [None, "", "a", "b", error("Error")])
        self.assertEqual(survey('assert f() == "zz"').answers("f()"), [None, "zz", error("Error")])
        letters = "abcdefghijklmnopqrstuvwxyz"
        rows = ["assert " + " or ".join(f'f() == "{letter}"' for letter in letters[at:at + 6]) for at in range(0, 26, 6)]
        self.assertEqual(survey("assert f()", "assert f() is word", *rows).answers("f()"),
                         [None, 1, "", *letters, "aa", error("Error")])

    def test_lengths(self):
        for number in range(21):
            for sign, holds in (("==", int.__eq__), ("!=", int.__ne__), ("<", int.__lt__), ("<=", int.__le__), (">", int.__gt__),
                                (">=", int.__ge__)):
                firsts = {}
                for length in range(22):
                    firsts.setdefault(holds(length, number), [None] * length)
                self.assertEqual(survey(f"assert len(f()) {sign} {number}").answers("f()"), [None, error("Error"), *firsts.values()])

    def test_indexes(self):
        self.assertEqual(survey("assert f()[0] == 5").answers("f()"), [None, error("Error"), [], [None], [5]])
        self.assertEqual(survey("assert f()[-1] == 5").answers("f()"), [None, error("Error"), [], [None], [5]])
        self.assertEqual(survey("assert f()[2] > 5").answers("f()"), [None, error("Error"), [], [None, None, 0], [None, None, 6]])
        self.assertEqual(survey("assert f()[9]").answers("f()"), [None, error("Error"), [], [None] * 10, [None] * 9 + [1]])
        self.assertEqual(survey("assert f()[0] == 5 and f()[-1] == 6").answers("f()"),
                         [None, error("Error"), [], [None], [5], [6], [5, 6]])

    def test_members(self):
        self.assertEqual(survey("assert 5 in f() and 3 in f()").answers("f()"),
                         [None, error("Error"), [], [3], [5], [3, 5]])
        self.assertEqual(survey("assert none in f()").answers("f()"), [None, error("Error"), [], [None]])

    def test_constants(self):
        self.assertEqual(survey("assert f() == [1, none]").answers("f()"), [None, error("Error"), [1, None]])
        self.assertEqual(survey("assert f() == [1, none] or f() == [1] or f() == [2] or f()").answers("f()"),
                         [None, 1, error("Error"), [1], [2], [1, None]])
        self.assertEqual(survey("assert f() == []", "assert f() == [1, 2, 3, 4, 5, 6]", "assert 6 in f()").answers("f()"),
                         [None, error("Error"), [], [None], [6], [1, 2, 3, 4, 5, 6]])

    def test_lists_of_several_lengths(self):
        found = survey("assert len(f()) > 2 and f()[0] == 5", "for x in f(1)", "if x == 1", "set a", "end", "end",
                       "call g()", "assert h() is list", "assert len(k()) < 2 and 7 in k()")
        self.assertEqual(found.answers("f()"), [
            None, error("Error"), [], [None], [5], [None, None, None], [5, None, None]])
        self.assertEqual(found.answers("f(1)"), [None, error("Error"), [], [1]])
        self.assertEqual(found.answers("k()"), [None, error("Error"), [], [7], [None, None], [None, 7]])
        # Where nothing is asked, a list is like None; where only its kind is, all lists are like the empty one.
        self.assertEqual(found.answers("g()"), [None, error("Error")])
        self.assertEqual(found.answers("h()"), [None, error("Error"), []])
        self.assertEqual(found.least("h()", [1, 2, 3]), [])
        with self.assertRaises(NoCall):
            found.answers("g(1)")

    def test_a_long_list_that_is_wanted(self):
        found = survey("assert len(f()) == 20 and f()[9] == 4 and f()[-1] == 7 and 8 in f()")
        wanted = [None] * 9 + [4] + [None] * 8 + [8, 7]
        self.assertEqual(found.answers("f()")[-1], wanted)
        self.assertEqual(found.least("f()", [8] * 9 + [4] * 10 + [7]), wanted)

    def test_the_order_of_all_kinds(self):
        found = survey('assert f() == 1 or f() == "a" or f() == [] or f() is none or f() is number or f() is word',
                       "raises Full", "assert f()[0] or f() == -1", "end")
        answers = found.answers("f()")
        self.assertEqual(answers, [None, 0, 1, -1, "", "a", error("Error"), error("Full"), [], [None], [1]])
        self.assertEqual(answers, ascending(FAMILY, *answers[::-1]))
        for at, one in enumerate(answers):
            for other in answers[:at]:
                self.assertFalse(found.alike("f()", one, other))

    def test_what_no_row_can_reach_counts(self):
        self.assertEqual(survey("return", "assert f() == 7").answers("f()"), [None, 7, error("Error")])

    def test_the_same_test_twice(self):
        one = test("t", "for x in f()", "assert x > 4", "end")
        self.assertEqual(Survey([one, one, test("t", " for  x in f( )", "assert x>4", "end")]).answers("f()"),
                         Survey([one]).answers("f()"))

    def test_ten_thousand(self):
        rows = [["let v = f()"] + ["if " + " or ".join(f"v[{at}] == {row * 6 + one}" for one in range(6)) + "\nend"
                                   for row in range(16)] for at in range(2)]
        found = Survey([test("a", *rows[0]), test("b", *rows[1])])
        answers = found.answers("f()")
        self.assertEqual(len(answers), 3 + 97 + 97 * 97)
        self.assertEqual(answers[:5], [None, error("Error"), [], [None], [0]])
        self.assertEqual(answers[-1], [95, 95])
        self.assertEqual(found.least("f()", [40, 200, 300]), [40, None])
        thirteen = survey(*[f"assert {number} in f()" for number in range(13)])
        self.assertEqual(len(thirteen.answers("f()")), 2 + 2 ** 13)
        self.assertEqual(thirteen.least("f()", [7, 99, 3, 7, 12]), [3, 7, 12])


if __name__ == "__main__":
    unittest.main()

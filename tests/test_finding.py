"""Finding (points 10, 14, 18 to 22): demands, verdicts and ways."""

import os
import sys
import unittest

sys.path.insert(0, os.path.dirname(os.path.abspath(__file__)))

from brute import all_parts, check_verdict, weight_of  # noqa: E402

from whatpasses.errors import BadDemand, OtherFamily  # noqa: E402
from whatpasses.families import Family  # noqa: E402
from whatpasses.finding import Verdict, find, ways  # noqa: E402
from whatpasses.parts import Part  # noqa: E402
from whatpasses.reading import Test  # noqa: E402
from whatpasses.runs import run  # noqa: E402
from whatpasses.trees import is_certificate  # noqa: E402

FAMILY = Family([("Full", None), ("Heap", "Full")])
NAMES = "abcdeghijklmnopqrstu"


def test(name, *rows, family=FAMILY):
    return Test.read("\n".join(["test " + name, *rows, "end"]), family)


def passes(*tests):
    return [(each, "passes", None) for each in tests]


class Demands(unittest.TestCase):
    def refuse(self, error, at, demands):
        for ageing in (False, True):
            with self.assertRaises(error, msg=demands) as caught:
                find(demands, ageing=ageing)
            self.assertEqual(caught.exception.at, at, demands)

    def test_values_that_are_no_demands(self):
        good = (test("a", "pass"), "passes", None)
        wrong = (
            None, 0, "passes", (), (good[0],), good[:2], (*good, None), list(good), (None, "passes", None), ("a", "passes", None),
            (str(good[0]), "passes", None), (good[0], "pass", None), (good[0], None, None), (good[0], "", None), (good[0], "not", 1),
            (good[0], ["passes"], None), (good[0], "Passes", None), (good[0], ("passes",), None), (good[0], "passes", True),
            (good[0], "passes", False), (good[0], "fails", "1"), (good[0], "fails", (1,)), (good[0], "skips", [None]),
            ("passes", good[0], None), (good, "passes", None), (FAMILY, "passes", None), (Part(), "passes", None),
        )
        other = (test("b", family=Family.plain()), "passes", None)
        for each in wrong:
            self.refuse(BadDemand, 0, [each])
            self.refuse(BadDemand, 0, (each, good, each))
            self.refuse(BadDemand, 2, [good, good, each])
            # No demand at all is found before a test of another family.
            self.refuse(BadDemand, 2, (good, other, each, other))

    def test_other_families(self):
        a, b, c = test("a"), test("b", family=Family.plain()), test("c", family=Family([("Full", None)]))
        self.refuse(OtherFamily, 1, passes(a, b))
        self.refuse(OtherFamily, 1, tuple(passes(b, a, c)))
        self.refuse(OtherFamily, 3, passes(c, c, c, a, b))
        self.assertTrue(find(passes(a, test("d", family=Family(list(FAMILY.declared))))))

    def test_none(self):
        for demands in ([], ()):
            for ageing in (False, True):
                verdict = find(demands, ageing=ageing)
                self.assertEqual((verdict.certificate, verdict.weight, bool(verdict)), (("part", ()), 0, True))
                self.assertEqual(verdict.part, Part(ageing=ageing))

    def test_verdicts(self):
        one = test("a", "assert f() == [1, none]")
        verdict = find(demands=passes(one), ageing=False)
        self.assertIsInstance(verdict, Verdict)
        self.assertEqual(verdict.certificate, ("part", ((("f()",), [1, None]),)))
        self.assertEqual((verdict.part, verdict.weight), (Part.steady({"f()": [1, None]}), 3))
        self.assertIs(bool(verdict), True)
        verdict = find([(one, "passes", None), (one, "fails", None)])
        self.assertIs(bool(verdict), False)
        self.assertIsNone(verdict.part)
        self.assertIsNone(verdict.weight)
        with self.assertRaises(TypeError):
            find(passes(one), False)
        for name in ("part", "weight"):
            self.assertIsInstance(vars(Verdict)[name], property)

    def test_arguments_stay(self):
        demands = passes(test("a", "assert f() == 1"), test("b", "assert g() == 1"))
        copy = list(demands)
        verdict = find(demands)
        self.assertEqual(demands, copy)
        demands.clear()
        self.assertEqual(verdict.weight, 2)

    def ends(self, rows, good, ageing=False):
        """good: the pairs (word, line) that some part meets, among all words and the lines to 6."""
        one = test("a", *rows)
        for word in ("passes", "fails", "skips", "not passes"):
            for line in (None, *range(-1, 7), 10 ** 30):
                demands = [(one, word, line)]
                verdict = find(demands, ageing=ageing)
                self.assertIs(bool(verdict), (word, line) in good, (rows, word, line))
                check_verdict(self, demands, verdict, ageing)

    def test_words_and_lines(self):
        for ageing in (False, True):
            self.ends(["pass"], [("passes", None)], ageing)
            self.ends(["pass", "fail"], [("fails", None), ("fails", 2), ("not passes", None), ("not passes", 2)], ageing)
            self.ends(["skip"], [("skips", None), ("skips", 1), ("not passes", None), ("not passes", 1)], ageing)
        rows = ["call f()", "assume f() == 1", "assert f() != 1"]
        good = [("skips", None), ("skips", 2), *[(word, line) for word in ("fails", "not passes") for line in (None, 1, 3)]]
        self.ends(rows, [*good, ("not passes", 2)])
        # An ageing part can raise an error at the second call, or answer the third one otherwise than that.
        self.ends(rows, [*good, ("not passes", 2), ("fails", 2), ("passes", None)], True)
        self.ends(["raises Full", "call f()", "end"], [
            ("passes", None), ("fails", None), ("not passes", None), ("fails", 1), ("fails", 2), ("not passes", 1),
            ("not passes", 2),
        ])


class Finding(unittest.TestCase):
    def check(self, *demands, ageing=False):
        verdict = find(list(demands), ageing=ageing)
        check_verdict(self, demands, verdict, ageing)
        return verdict

    def test_the_example_of_forced_parts(self):
        one = test("t", "assert f() == 1", "assert f() == 2")
        self.assertFalse(self.check((one, "passes", None)))
        self.assertEqual(self.check((one, "passes", None), ageing=True).certificate,
                         ("part", ((("f()",), 1), (("f()", "f()"), 2))))

    def test_the_least_weight(self):
        for rows, weight, ageing_weight in (
            (["assert f() is none"], 0, 0), (["assert f() == none or f() == 1"], 0, 0), (["assert f()"], 1, 1),
            (["assert f() == 7 or len(f()) > 3"], 1, 1), (["assert len(f()) > 3 or f() == 7"], 5, 2),
            (["assert len(f()) > 3 or len(f()) == 2"], 3, 4), (["assert len(f()) == 20"], 21, 21),
            (["raises Full from Heap", "call f()", "end"], 1, 1), (["assert f() == [1, 2]", "assert g()"], 4, 4),
            (["if f() == 1", "assert len(g()) == 5", "else", "assert len(g()) == 9", "end"], 7, 7),
            (["for x in f()", "if on a", "set b", "end", "set a", "end", "assert on b"], 3, 3),
            (["let x = f()", "assert 1 in x and 2 in x and 3 in x"], 4, 4), (["assert 1 in f() and 2 in f()"], 3, 4),
        ):
            self.assertEqual(self.check((test("t", *rows), "passes", None)).weight, weight, rows)
            self.assertEqual(self.check((test("t", *rows), "passes", None), ageing=True).weight, ageing_weight, rows)

    def test_ageing_parts_answer_by_the_calls_before(self):
        a = test("a", "assert f() == 1", "assert g() == 2", "assert f() == 3")
        b = test("b", "assert g() == 4", "assert f() == 5")
        self.assertFalse(self.check(*passes(a, b)))
        verdict = self.check(*passes(a, b), ageing=True)
        self.assertEqual(verdict.weight, 5)
        self.assertEqual(verdict.part.answer("f()", "g()", "f()"), 3)
        # Each test begins anew, so both make the same first call.
        c = test("c", "assert f() == 6")
        self.assertFalse(self.check(*passes(a, c), ageing=True))

    def test_one_part_for_all_tests(self):
        a, b = test("a", "assert f() > 3"), test("b", "assert f() < 6 and f() != 4")
        self.assertEqual(self.check(*passes(a, b)).part, Part.steady({"f()": 5}))
        self.assertTrue(self.check((a, "passes", None), (b, "not passes", None)))
        c = test("c", "assert f() != 5")
        self.assertFalse(self.check(*passes(a, b, c)))
        self.assertTrue(self.check((a, "passes", None), (b, "passes", None), (c, "fails", 1)))

    def test_order_and_repetition(self):
        tests = [test("a", "assert f() == 1 or g() == 1"), test("b", "assert f() != 1 or h() == 2"), test("c", "assert g() != 1")]
        more = test("d", "assert h() is none")
        for ageing in (False, True):
            demands = passes(*tests)
            weight = self.check(*demands, ageing=ageing).weight
            # An ageing part can answer g() otherwise behind f() than at once.
            self.assertEqual(weight, 1 if ageing else 2)
            for other in (demands[::-1], demands * 2, [demands[2], demands[0], demands[1], demands[0]]):
                self.assertEqual(self.check(*other, ageing=ageing).weight, weight)
            self.assertTrue(self.check(*demands, (more, "fails", 1), ageing=ageing))
            last = (more, "passes", None)
            self.assertIs(bool(self.check(*demands, last, ageing=ageing)), ageing)
            self.assertIs(bool(self.check(last, *demands[::-1], last, ageing=ageing)), ageing)

    def test_the_same_test_otherwise(self):
        one = test("a", "if f() == 1", "assert g() == 2", "else", "assert g() == 3", "end")
        for ageing in (False, True):
            for other in ("not passes", "fails", "skips"):
                self.assertFalse(self.check((one, "passes", None), (one, other, None), ageing=ageing))
            self.assertTrue(self.check((one, "fails", None), (one, "not passes", 2), ageing=ageing))
            self.assertFalse(self.check((one, "fails", 4), (one, "not passes", 2), ageing=ageing))


    def test_answers_that_several_tests_need(self):
        """What one test needs beyond a call is not counted again where another one has asked for it."""
        tests = [
            test("a", "set q", "assume f() != 1 or not on q", "try", "assert len(f()) > 0 or f() != 1", "except Failed", "set p", "end"),
            test("b", "if 1 in f() or f() == 2", "return", "end"), test("c", "if not f() == 1", "set p", "end"),
        ]
        self.assertEqual(self.check(*passes(*tests), ageing=True).weight, 2)
        tests = [
            test("a", "assert on q and not 1 in g(1)"),
            test("b", "assert on q and not len(g(1)) > 2 and not g(1) == 0"),
            test("c", "set q", "if g(1) is none and f() != 0", "set p", "end"),
            test("d", "try", "assert not g(1) != 1 or not len(g(1)) == 1", "except Failed", "pass", "end", "let x = f()"),
            test("e", "assert not 1 in g(1) or not 1 in g(1)", "for i in f()", "if on p", "set p", "end", "end"),
        ]
        words = ("not passes", "fails", "not passes", "passes", "not passes")
        self.assertEqual(self.check(*[(each, word, None) for each, word in zip(tests, words)], ageing=True).weight, 1)


class LargeTests(unittest.TestCase):
    """As large as the bounds behind point 19 allow."""

    def check(self, demands, weight, ageing=False):
        verdict = find(demands, ageing=ageing)
        self.assertEqual(verdict.weight, weight)
        self.assertTrue(is_certificate(demands, verdict.certificate, ageing=ageing))
        for each, word, line in demands if verdict else []:
            self.assertEqual(run(each, verdict.part).word == "passes", word == "passes")
        return verdict

    def test_six_calls_with_many_answers(self):
        tests = [test(NAMES[at], f"assert len(f({at % 6})) > {at // 6 * 5} or f({(at + 1) % 6}) == {at}") for at in range(20)]
        for ageing in (False, True):
            verdict = find(passes(*tests), ageing=ageing)
            self.check(passes(*tests), verdict.weight, ageing)
            self.check([*passes(*tests), (tests[7], "not passes", None)], None, ageing)
            self.check([*passes(*tests[:19]), (tests[19], "not passes", None)],
                       find([*passes(*tests[:19]), (tests[19], "not passes", None)], ageing=ageing).weight, ageing)

    def test_chains_of_calls(self):
        rows = []
        for one in range(5):
            rows += [f"assert not f({one}) == {value} or f({one + 1}) == {value}" for value in range(1, 19)]
        rows += [f"assert f({one}) > 0 and f({one}) < 19" for one in range(6)]
        closed = rows + [f"assert not f(5) == {value} or not f(0) == {value}" for value in range(1, 19)]
        for lines, weight in ((rows, 6), (closed, None)):
            tests = [test(NAMES[at], *lines[at * 38:at * 38 + 38]) for at in range(4)]
            self.check(passes(*tests), weight)

    def test_two_calls_with_ten_thousand_answers(self):
        tests = []
        for call in ("f(1)", "f(2)"):
            for at in range(2):
                rows = ["if " + " or ".join(f"v[{at}] == {row * 6 + one}" for one in range(6)) + "\nend" for row in range(16)]
                tests.append(test(NAMES[len(tests)], "let v = " + call, *rows))
        tests.append(test("y", "assert f(1)[0] == 7 or f(2)[1] == 8"))
        tests.append(test("z", "assert f(1)[1] == 7 and f(2)[0] == 8"))
        # Without two lists of two items each the first tests do not pass.
        self.check([*passes(*tests[:5]), (tests[5], "not passes", None)], 6)
        self.check(passes(*tests), 6)
        self.check([*passes(*tests), (tests[4], "not passes", None)], None)

    def test_twenty_calls_in_each_run(self):
        tests = []
        for at in range(20):
            tests.append(test(NAMES[at], *[f"assert f({(one * (at + 1)) % 5}) != {one}" if one % 3 else f"assert f({at % 5})"
                                           for one in range(20)]))
        verdict = find(passes(*tests), ageing=True)
        self.assertTrue(verdict)
        self.check(passes(*tests), verdict.weight, True)
        self.assertFalse(find([*passes(*tests), (tests[11], "not passes", None)], ageing=True))

    def test_the_last_call_of_twenty_counts(self):
        rows = [f"assert f() != {one}" for one in range(1, 20)]
        a, b, c = test("a", *rows, "assert f() == 20"), test("b", *rows, "assert f() == 21"), test("c", *rows, "call f()", "fail")
        self.check(passes(a), 1, True)
        self.check(passes(a, b), None, True)
        self.check([*passes(a), (c, "fails", 20)], None, True)
        self.check([*passes(a), (c, "fails", 21)], 1, True)


class Ways(unittest.TestCase):
    def compare(self, tests, ageing):
        best = {}
        for known, ends in all_parts(tests, ageing):
            way = tuple((end.rows, end.word) for end in ends)
            best[way] = min(best.get(way, 10 ** 9), weight_of(known))
        found = list(ways(tests, ageing=ageing))
        self.assertEqual([(part.weight, way) for way, part in found], sorted((weight, way) for way, weight in best.items()))
        for way, part in found:
            self.assertIsInstance(part, Part)
            self.assertIs(part.ageing, ageing)
            self.assertEqual(tuple((run(each, part).rows, run(each, part).word) for each in tests), way)
        return found

    def test_no_tests(self):
        self.assertEqual(list(ways([])), [((), Part())])
        self.assertEqual(list(ways((), ageing=True)), [((), Part(ageing=True))])

    def test_one_test(self):
        found = self.compare([test("a", "assert f() == 1", "pass")], False)
        self.assertEqual(found, [((((1,), "fails"),), Part()), ((((1, 2), "passes"),), Part.steady({"f()": 1}))])
        found = self.compare([test("a", "pass", "skip")], True)
        self.assertEqual([way for way, _ in found], [(((1, 2), "skips"),)])

    def test_ways_are_told_apart_by_rows_and_words(self):
        a = test("a", "if f() == 1", "pass", "end", "assume f() != 2", "for x in g()", "assert x", "end")
        b = test("b", "try", "call f()", "except Full", "call g()", "except Error", "fail", "else", "assert f() == 1", "end")
        for tests in ([a], [b], (a, b), [b, a], [a, a], [b, a, b]):
            for ageing in (False, True):
                self.compare(tests, ageing)

    def test_several_reasons_for_one_way(self):
        rows = [test(name, f"assert f({at}) == 1 or g() == {at} or f({at}) == [3] or g() == 9") for at, name in enumerate("abcd")]
        self.compare(rows[:3], False)
        self.compare(rows[:1], True)
        self.compare([rows[0], rows[0], rows[1]], False)

    def test_order(self):
        a, b = test("a", "if f()", "end", "if f() == 2", "pass", "end"), test("b", "assert len(g()) == 4")
        weights = [part.weight for _, part in self.compare([a, b], False)]
        self.assertEqual(weights, sorted(weights))
        self.assertIn(5, weights)

    def test_only_what_is_taken_is_looked_for(self):
        tests = [test(NAMES[at], f"assert f({at % 6}) == {at} or len(f({(at + 1) % 6})) == {at}") for at in range(20)]
        for ageing in (False, True):
            found = ways(tests, ageing=ageing)
            first = [next(found) for _ in range(5)]
            self.assertEqual(first[0][1], Part(ageing=ageing))
            self.assertEqual([part.weight for _, part in first], [0, 1, 1, 1, 1])

    def test_many_ways(self):
        tests = [test(NAMES[at], f"assert f({at % 6}) == {at // 6}") for at in range(12)]
        found = list(ways(tests))
        self.assertEqual(len(found), 3 ** 6)
        self.assertEqual(len({way for way, _ in found}), 3 ** 6)

    def test_a_generator(self):
        found = ways(tests=[test("a", "assert f() == [1]")], ageing=True)
        self.assertIs(iter(found), found)
        self.assertEqual(next(found)[1], Part(ageing=True))
        self.assertEqual(next(found), ((((1,), "passes"),), Part([(("f()",), [1])], ageing=True)))
        self.assertEqual(list(found), [])


if __name__ == "__main__":
    unittest.main()

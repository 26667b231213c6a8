"""Trees of cases and certificates (points 22 to 24)."""

import os
import sys
import unittest

sys.path.insert(0, os.path.dirname(os.path.abspath(__file__)))

from brute import is_tree_by_trying  # noqa: E402

from whatpasses.errors import BadDemand, OtherFamily  # noqa: E402
from whatpasses.families import Family  # noqa: E402
from whatpasses.finding import find  # noqa: E402
from whatpasses.reading import Test  # noqa: E402
from whatpasses.surveys import Survey  # noqa: E402
from whatpasses.trees import is_certificate, is_tree  # noqa: E402

FAMILY = Family([("Full", None)])
ERROR = ("raises", "Error", None)
OTHERS = (
    None, True, False, 0, 1, -1, 10 ** 39, "", "missed", "split", [], (), (0,), ("missed",), ("missed", 0, 0), ["missed", 0],
    ("Missed", 0), ("missed", None), ("missed", True), ("missed", False), ("missed", "0"), ("missed", (0,)), ("missed", [0]),
    ("missed", -1), ("missed", 2), ("missed", 10 ** 30), ("missed", ("missed", 0)), (("missed", 0),), (None, 0), (["missed"], 0),
    ("split",), ("split", ("f()",)), ("split", ("f()",), ()), ("split", ("f()",), None), ("never", ("missed", 0)), ("part", ()),
)


def test(name, *rows, family=FAMILY):
    return Test.read("\n".join(["test " + name, *rows, "end"]), family)


def split(path, *branches):
    return ("split", path, branches)


def branch(tree, *answers):
    return (answers, tree)


MISS0, MISS1, MISS2 = ("missed", 0), ("missed", 1), ("missed", 2)
F, G = ("f()",), ("g()",)
ONE, TWO = test("a", "assert f() == 1"), test("b", "assert f() == 1 and g() == 2")
DEMANDS = [(ONE, "not passes", None), (TWO, "passes", None)]
TREE = split(F, branch(MISS0, 1), branch(MISS1, None, ERROR))


class Base(unittest.TestCase):
    def right(self, demands, *trees, ageing=False):
        for tree in trees:
            self.assertIs(is_tree(demands, tree, ageing=ageing), True, tree)
            self.assertIs(is_certificate(demands, ("never", tree), ageing=ageing), True, tree)

    def wrong(self, demands, *trees, ageing=False):
        for tree in trees:
            self.assertIs(is_tree(demands, tree, ageing=ageing), False, tree)
            self.assertIs(is_certificate(demands, ("never", tree), ageing=ageing), False, tree)


class Trees(Base):
    def test_errors(self):
        for function in (is_tree, is_certificate):
            for thing in (None, MISS0, TREE, ("never", TREE)):
                for demands, error, at in (
                    ([DEMANDS[0], None], BadDemand, 1), ((DEMANDS[0], (ONE, "passes", True)), BadDemand, 1),
                    ([(test("c", family=Family.plain()), "fails", None), *DEMANDS], OtherFamily, 1),
                    ([*DEMANDS, (test("c", family=Family.plain()), "fails", None), 7], BadDemand, 3),
                ):
                    for ageing in (False, True):
                        with self.assertRaises(error) as caught:
                            function(demands, thing, ageing=ageing)
                        self.assertEqual(caught.exception.at, at)
        with self.assertRaises(TypeError):
            is_tree(DEMANDS, TREE, False)
        with self.assertRaises(TypeError):
            is_certificate(DEMANDS, TREE, False)

    def test_no_demands(self):
        self.wrong([], *OTHERS, MISS0, TREE, split(F, branch(MISS0, None)))
        self.wrong((), MISS0, ageing=True)

    def test_other_values(self):
        for ageing in (False, True):
            self.wrong(DEMANDS, *OTHERS, ageing=ageing)
            for other in OTHERS:
                self.wrong(DEMANDS, split(F, branch(other, 1), branch(MISS1, None, ERROR)), ageing=ageing)
                if other != ():
                    self.wrong(DEMANDS, ("split", F, other), ("split", F, (other,)), ageing=ageing)
                # Also where no part comes.
                self.wrong(DEMANDS, split(F, branch(MISS0, 1), branch(split(F, branch(other, 1), branch(MISS1, None)), ERROR, None)),
                           ageing=ageing)

    def test_deep_values(self):
        deep = 0
        for _ in range(59):
            deep = (deep,)
        self.wrong(DEMANDS, deep, ("missed", deep), split(deep, branch(MISS0, 1)), split(F, branch(MISS0, deep)), split(F, branch(deep, 1)))
        tree = TREE
        for _ in range(300):
            tree = split(F, branch(tree, 1, None, ERROR))
        self.right(DEMANDS, tree)
        self.wrong(DEMANDS, split(F, branch(tree, 1, None)))

    def test_a_leaf(self):
        never = test("c", "fail")
        self.right([(never, "passes", None)], MISS0)
        self.right([DEMANDS[0], (never, "passes", None)], MISS1)
        self.wrong([DEMANDS[0], (never, "passes", None)], MISS0, MISS2)
        self.right([(ONE, "passes", 1)], MISS0)
        self.right([(ONE, "fails", 2)], MISS0)
        self.right([(ONE, "skips", None)], MISS0)
        self.wrong([(ONE, "fails", 1)], MISS0)
        # For steady parts two answers to the same call are equal.
        twice = [(test("c", "assert f() == 1", "assert f() == 2"), "passes", None)]
        self.right(twice, MISS0)
        self.wrong(twice, MISS0, ageing=True)

    def test_answers(self):
        for ageing in (False, True):
            self.right(DEMANDS, TREE, ageing=ageing)
            self.right(
                DEMANDS, split(F, branch(MISS1, ERROR, None), branch(MISS0, 1)), split(F, branch(MISS1, None), branch(MISS0, 1), branch(MISS1, ERROR)),
                # Any answer that is alike will do, and others may stand there, too.
                split(F, branch(MISS0, 1), branch(MISS1, 7, ("raises", "Odd", "Odder"))),
                split(F, branch(MISS0, 1, 1, 1), branch(MISS1, None, "", [None] * 30, 2, ERROR, ("raises", "Full", None))),
                split(F, branch(split(F, branch(MISS0, 1, None, 8, ERROR)), 1), branch(MISS1, None, ERROR)),
                split(G, branch(TREE, None, 2, ERROR)), split(G, branch(TREE, 2), branch(TREE, ERROR, 7)), ageing=ageing,
            )
            self.wrong(
                DEMANDS, split(F, branch(MISS0, 1)), split(F, branch(MISS1, None, ERROR)), split(F, branch(MISS0, 1), branch(MISS1, None)),
                split(F, branch(MISS0, 1), branch(MISS1, ERROR)), split(F, branch(MISS0, 1, None), branch(MISS1, ERROR)),
                split(F, branch(MISS0, 1), branch(MISS1, None, ERROR, 1)), split(F, branch(MISS0, 1), branch(MISS1, None, ERROR), branch(MISS1, 7)),
                split(F, branch(MISS1, 1), branch(MISS0, None, ERROR)), split(F, branch(MISS0, 1), branch(MISS0, None, ERROR)),
                split(F, branch(MISS2, 1), branch(MISS1, None, ERROR)), split(G, branch(MISS0, None, 2, ERROR)),
                split(F, branch(MISS0), branch(MISS1, None, ERROR)), split(F, branch(MISS0, 1), branch(MISS1, None, ERROR), branch(MISS0)),
                split(F, branch(MISS0, True), branch(MISS1, None, ERROR)), split(F, branch(MISS0, 1), branch(MISS1, None, ERROR, False)),
                split(F, branch(MISS0, 1), branch(MISS1, None, list(ERROR))), split(F, branch(MISS0, 1), branch(MISS1, (None,), ERROR)),
                split(F, branch(MISS0, 1), branch(MISS1, None, ERROR, [[1]])), split(F, branch(MISS0, 1), branch(MISS1, None, ERROR, "Word")),
                split(F, ([1], MISS0), branch(MISS1, None, ERROR)), split(F, (1, MISS0), branch(MISS1, None, ERROR)),
                split(F, ((1,), MISS0, None), branch(MISS1, None, ERROR)), split(F, [(1,), MISS0], branch(MISS1, None, ERROR)),
                split(F, [*TREE[2][0]], TREE[2][1]), ("split", F, list(TREE[2])), list(TREE), ageing=ageing,
            )

    def test_alike_in_the_tests_of_all_demands(self):
        more = [*DEMANDS, (test("c", "assert f() != 7"), "passes", None)]
        self.wrong(more, TREE)
        self.right(more, split(F, branch(MISS0, 1), branch(MISS1, None, ERROR, 7)))

    def test_paths(self):
        for path in (None, "f()", ["f()"], (), ("f( )",), ("h()",), ("f",), (None,), (1,), (("f()",),), ("f()", "h()"), ("f()", None)):
            for ageing in (False, True):
                self.wrong(DEMANDS, split(path, *TREE[2]), ageing=ageing)
                # The paths are asked for also where no part comes.
                self.wrong(DEMANDS, split(F, branch(split(F, branch(MISS0, 1), branch(split(path, *TREE[2]), None)), 1), TREE[2][1]), ageing=ageing)
        for path in (("f()", "g()"), ("h()", "f()"), ("g()", "g()", "odd(1)", "f()")):
            tree = split(path, *[branch(TREE, answer) for answer in (1, None, 2, ERROR)][2 * (path[-1] == "f()"):])
            every = split(path, branch(TREE, None, 1, 2, ERROR))
            self.wrong(DEMANDS, tree, every)
            self.right(DEMANDS, every, ageing=True)

    def test_ageing_paths(self):
        twice = [(test("c", "assert f() == 1", "assert f() == 2"), "passes", None), (test("d", "assert f() == 2"), "passes", None)]
        tree = split(F, branch(MISS1, 1, None, ERROR), branch(MISS0, 2))
        self.right(twice, tree, ageing=True)
        self.wrong(twice, split(("f()", "f()"), *tree[2]), split(F, branch(MISS0, 1, None, ERROR), branch(MISS1, 2)), ageing=True)

    def test_where_no_part_comes(self):
        inner = split(F, branch(MISS0, 1), branch(MISS2, None))
        self.wrong(DEMANDS, split(F, branch(inner, 1), TREE[2][1]))
        for never in (split(F, branch(MISS0, 7)), split(G, branch(MISS1, None), branch(MISS1, None)), MISS1, split(F, branch(MISS1, 1, 1))):
            self.right(DEMANDS, split(F, branch(split(F, branch(MISS0, 1), branch(never, None, "b")), 1), TREE[2][1]))
        # A branch that repeats answers of another one only where nobody comes.
        self.right(DEMANDS, split(F, branch(split(F, branch(MISS0, 1), branch(MISS0, None), branch(MISS1, None)), 1), TREE[2][1]))

    def test_a_leaf_that_holds_for_some_parts_only(self):
        demands = [(test("c", "assert f() == 1 or g() == 1"), "passes", None), (ONE, "not passes", None), (test("d", "assert g() != 1"), "passes", None)]
        good = split(F, branch(MISS1, 1), branch(split(G, branch(MISS2, 1), branch(MISS0, None, ERROR)), None, ERROR))
        self.right(demands, good, split(G, branch(MISS2, 1), branch(split(F, branch(MISS1, 1), branch(MISS0, None, ERROR)), None, ERROR)))
        self.wrong(demands, split(F, branch(MISS1, 1), branch(MISS0, None, ERROR)), split(F, branch(MISS1, 1), branch(MISS2, None, ERROR)))

    def test_by_name(self):
        self.assertIs(is_tree(demands=DEMANDS, thing=TREE, ageing=False), True)
        self.assertIs(is_certificate(demands=tuple(DEMANDS), thing=("never", TREE), ageing=True), True)


class Certificates(Base):
    def certificate(self, demands, good, wrong, ageing=False):
        for entries in good:
            self.assertIs(is_certificate(demands, ("part", entries), ageing=ageing), True, entries)
        for entries in wrong:
            self.assertIs(is_certificate(demands, ("part", entries), ageing=ageing), False, entries)

    def test_other_values(self):
        for thing in (*OTHERS, ("part",), ("part", (), ()), ["part", ()], ("parts", ()), ("never",), ("never", TREE, None), TREE, ["never", TREE],
                      ("never", list(TREE)), ("never", None), (True, ()), (("part",), ()), ("part", None), ("part", []), ("part", 0)):
            if thing not in (("never", MISS0), ("part", ())):
                self.assertIs(is_certificate(DEMANDS, thing), False, thing)
        for other in OTHERS:
            self.assertIs(is_certificate(DEMANDS, ("part", other)), False, other)
            self.assertIs(is_certificate([(ONE, "passes", None)], ("part", (other,))), False, other)
            self.assertIs(is_certificate([(ONE, "passes", None)], ("part", ((F, other),))), type(other) is int and other == 1, other)

    def test_no_demands(self):
        self.certificate([], [()], [((F, 1),), None, [], ((F, None),)])
        self.assertIs(is_certificate([], ("never", MISS0)), False)

    def test_parts(self):
        demands = [(test("c", "assert f() == 1 or f() == 5 or len(f()) == 2"), "passes", None), (test("d", "assert g() != none"), "passes", None)]
        good = ((F, 1), (G, 2))
        self.certificate(demands, [good, ((F, 5), (G, 0)), ((F, 1), (G, []))], [
            ((F, 5), (G, ERROR)), ((G, 2), (F, 1)), ((F, 1),), ((G, 2),), (), (*good, *good), ((F, 1), (F, 1), (G, 2)), (*good, (("h()",), 1)), (*good, (("h()",), None)),
            ((F, 1), (G, None)), ((F, 2), (G, 2)), ((F, [None, None]), (G, 2)), ((F, 1), (G, [1])),
            list(good), ([F, 1], (G, 2)), ((list(F), 1), (G, 2)), ((F, True), (G, 2)), ((F, 1, None), (G, 2)), ((F, 1), (("g()", "g()"), 2)),
            ((F, 1), (G, "Word")), ((F, 1), (G, 2), None), ((F, 1), (("g( )",), 2)),
        ])

    def test_ageing_parts(self):
        demands = [(test("c", "assert f() == 1", "assert f() == 2 or f() == [3]"), "passes", None)]
        good = ((F, 1), (("f()", "f()"), 2))
        self.certificate(demands, [good], [
            good[::-1], good[:1], ((F, 1), (("f()", "f()", "f()"), [3])), ((F, 1), (G, 2)), (*good, (("f()", "g()"), 1)),
        ], True)
        self.certificate(demands, [], [good, ((F, 1), (F, 2))])

    def test_verdicts(self):
        tests = [test("c", "assert len(f()) == 3 or g() == 1"), test("d", "for x in f()", "assert x > 1", "end"), test("e", "assert g() == 1 or g() == 2")]
        for ageing in (False, True):
            for word in ("passes", "not passes"):
                demands = [(tests[0], word, None), *[(each, "passes", None) for each in tests[1:]], (ONE, "fails", None)]
                found = find(demands, ageing=ageing)
                # A part meets the demands in any order; the indexes in a tree are right for their own order only.
                self.assertIs(is_certificate(demands * 2, found.certificate, ageing=ageing), True)
                self.assertIs(is_certificate(demands[::-1], found.certificate, ageing=ageing), bool(found))
                other = [*demands, (TWO, "passes", None)]
                self.assertIs(is_certificate(other, find(other, ageing=ageing).certificate, ageing=ageing), True)
                self.assertIs(is_certificate(demands, find(other, ageing=ageing).certificate, ageing=ageing), False)


class Spoiled(Base):
    """Each piece of a tree that `find` returns left out, doubled or exchanged, against what trying all parts says."""

    def trees(self, tree):
        """The tree with one piece otherwise."""
        if tree[0] == "missed":
            yield from (("missed", index) for index in range(-1, 4) if index != tree[1])
            return
        _, path, branches = tree
        yield ("split", path, branches[::-1])
        yield ("split", path, branches + branches[:1])
        for at, (answers, inner) in enumerate(branches):
            yield ("split", path, branches[:at] + branches[at + 1:])
            others = branches[:at] + branches[at + 1:]
            for place, answer in enumerate(answers):
                yield ("split", path, (*others, (answers[:place] + answers[place + 1:], inner)))
                yield ("split", path, (*others, (answers + (answer,), inner)))
                yield ("split", path, (*others[:-1], (others[-1][0] + (answer,), others[-1][1]), (answers, inner)) if others else branches)
            for other in self.trees(inner):
                yield ("split", path, (*others, (answers, other)))

    def test_spoiled_trees(self):
        a, b = test("c", "assert f() == 1 or g() == [1]"), test("d", "if f() == 1", "assert g() == 2", "else", "assert g() == 3", "end")
        many = 0
        for ageing in (False, True):
            demands = [(a, "passes", None), (b, "passes", None), (test("e", "assert g() != 2 or f() == 5"), "passes", None)]
            if ageing:
                demands.append((test("d", "assert g() != [1]", "call f()"), "passes", None))
                demands.append((test("h", "assert f() == 5"), "fails", None))
                demands.append((test("h", "if f() == 1", "assert g() == 7", "end"), "passes", None))
            tree = find(demands, ageing=ageing).certificate[1]
            self.right(demands, tree, ageing=ageing)
            self.right(demands[::-1], find(demands[::-1], ageing=ageing).certificate[1], ageing=ageing)
            for other in self.trees(tree):
                many += 1
                formed = self.is_formed(other, len(demands))
                self.assertIs(is_tree(demands, other, ageing=ageing), formed and is_tree_by_trying(demands, other, ageing), other)
        self.assertGreater(many, 50)

    def is_formed(self, tree, many):
        if tree[0] == "missed":
            return 0 <= tree[1] < many
        return len(tree[2]) > 0 and all(len(answers) > 0 and self.is_formed(inner, many) for answers, inner in tree[2])

    def test_a_tree_with_all_answers_one_by_one(self):
        rows = ["let v = f()"] + [f"assert v[0] != {number}" for number in range(30)] + [f"assert {number} in v" for number in range(7)]
        demands = [(test("c", *rows), "passes", None), (test("d", "assert len(f()) < 4"), "passes", None)]
        answers = Survey([each for each, _, _ in demands]).answers("f()")
        self.assertGreater(len(answers), 1000)
        short = [not (isinstance(answer, list) and len(answer) > 3) for answer in answers]
        tree = split(F, *[branch(MISS0 if few else MISS1, answer) for few, answer in zip(short, answers)])
        self.right(demands, tree, find(demands).certificate[1])
        self.wrong(demands, ("split", F, tree[2][:-1]), ("split", F, (*tree[2], tree[2][7])), ("split", F, (*tree[2][:-1], branch(MISS2, answers[-1]))))


if __name__ == "__main__":
    unittest.main()

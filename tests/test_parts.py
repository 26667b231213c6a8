"""Parts (points 5, 10 and 11, as `parts.py` needs them)."""

import unittest

from whatpasses.errors import BadPart, Raised
from whatpasses.parts import Part

F, G = ("f()",), ('g("ab", -3)',)
LONG = ("f()", "f()", 'g("ab", -3)')
NO_PATHS = (
    "f()", ["f()"], (), ("f",), ("f( )",), ("f() ",), ("f(1,2)",), ("F()",), ("f(01)",), ("len()",), ("f(x)",), (None,), (1,),
    (("f()",),), None, 0, True, ("f()", 1), ("f()", "f"), ("", "f()"), ('f("abcdefghi")',), ("f(1, 2, 3, 4)",), ("f()\n",),
)
NO_ANSWERS = (
    True, False, "A", "ab c", "a" * 31, (), ("raises",), ("raises", "Error"), ("raises", "error", None), ("raises", "Error", 1),
    ("raises", "Error", None, None), ["raises", "Error", []], [True], [[]], [("raises", "Error", None)], ["A"], {}, (1, 2),
    ("raise", "Error", None), ("raises", None, None), ("raises", "Abcdefghijklm", None), [None, 0, ""] + [False], b"a",
)
ANSWERS = {
    0: 1, 5: 1, -7: 1, 10 ** 39: 1, "": 1, "a" * 30: 1, ("raises", "Error", None): 1, ("raises", "Odd", "Error"): 1,
}


class Base(unittest.TestCase):
    def refuse(self, at, *values, make=Part, **more):
        with self.assertRaises(BadPart, msg=values) as caught:
            make(*values, **more)
        self.assertEqual(caught.exception.at, at)
        self.assertNotIsInstance(caught.exception.at, bool)

    def entries(self, part, expected):
        self.assertIsInstance(part.entries, tuple)
        self.assertEqual(part.entries, tuple(expected))
        self.assertEqual(len(part), len(expected))


class Making(Base):
    def test_no_entries(self):
        for part in (Part(), Part([]), Part(()), Part(entries=()), Part(((F, None),)), Part(ageing=False)):
            self.entries(part, [])
            self.assertEqual((part.ageing, part.weight), (False, 0))
            self.assertEqual(part, Part())
        self.assertIs(Part(ageing=True).ageing, True)
        self.assertNotEqual(Part(ageing=True), Part())

    def test_entries(self):
        for entries in ([(G, 2), (F, [1, 2])], ((F, [1, 2]), (G, 2)), [(F, [1, 2]), (("h()",), None), (G, 2)]):
            part = Part(entries)
            self.entries(part, [(F, [1, 2]), (G, 2)])
            self.assertEqual(part.weight, 4)
            self.assertIs(part.ageing, False)
        part = Part([(LONG, "a"), (F, ("raises", "Odd", None)), (("f()", "f()"), [])], ageing=True)
        self.entries(part, [(F, ("raises", "Odd", None)), (("f()", "f()"), []), (LONG, "a")])
        self.assertEqual((part.ageing, part.weight), (True, 3))

    def test_order_of_paths(self):
        texts = ["f()", "f(-1)", "f(1)", "f(10)", "f(2)", 'f("a")', "f(none)", "ff()", "e(9)", "f(1, 2)"]
        part = Part([((text,), 1) for text in texts])
        self.assertEqual([path for path, _ in part.entries], sorted((text,) for text in texts))
        paths = [("f()",), ("e()", "z()"), ("f()", "a()"), ("e()",), ("f()", "a()", "a()"), ("f(1)",)]
        part = Part([(path, 1) for path in paths], ageing=True)
        self.assertEqual([path for path, _ in part.entries], sorted(paths))

    def test_every_answer(self):
        for answer, weight in [*ANSWERS.items(), ([], 1), ([None], 2), ([1, "a", None, 0], 5), ([0] * 500, 501), (None, 0)]:
            part = Part([(F, answer), (G, 1)])
            self.assertEqual((part.weight, part.answer("f()")), (weight + 1, answer))
            self.assertEqual(len(part), 1 if answer is None else 2)

    def test_no_list_or_tuple(self):
        for thing in (None, 0, -1, True, "", "ab", {}, {F: 1}, {1}, b"", iter([])):
            self.refuse(-1, thing)
            self.refuse(-1, thing, ageing=True)
        self.refuse(-1, entries=None)

    def test_wrong_entries(self):
        wrong = [(path, 1) for path in NO_PATHS] + [(F, answer) for answer in NO_ANSWERS]
        wrong += [None, 0, True, "", "ab", (), (F,), (F, 1, 1), [F, 1], F, {F: 1}, (1, F), ("f()", 1)]
        for entry in wrong:
            for more in ([], [(G, 1)], ["nonsense", None]):
                self.refuse(0, [entry, *more])
                self.refuse(0, (entry, *more))
                self.refuse(2, [(G, True and 1), (("h()",), None), entry, *more])
                self.refuse(1, [(LONG, 1), entry, *more], ageing=True)

    def test_paths_of_steady_and_ageing_parts(self):
        self.refuse(0, [(LONG, 1)])
        self.refuse(1, [(F, 1), (("f()", "f()"), 1)])
        self.assertEqual(len(Part([(LONG, 1), (F, 1)], ageing=True)), 2)

    def test_the_same_path_twice(self):
        for first, second in ((1, 1), (1, 2), (None, None), (None, 1), (1, None), ([], [])):
            self.refuse(1, [(F, first), (F, second)])
            self.refuse(2, ((F, first), (G, 1), (F, second), (G, True)))
            self.refuse(1, [(LONG, first), (LONG, second)], ageing=True)
        self.refuse(1, [(F, 1), (F, True)])

    def test_what_is_changed_behind_the_call(self):
        items, entries = [1, 2], []
        entries.append((F, items))
        part = Part(entries)
        items.append(3)
        entries.append((G, 1))
        entries[0] = (G, 2)
        self.entries(part, [(F, [1, 2])])
        answers = {"f()": items}
        part = Part.steady(answers)
        items.append(4)
        answers["f()"] = 1
        self.entries(part, [(F, [1, 2, 3])])


class Answers(Base):
    def test_steady(self):
        part = Part([(F, [1]), (G, "a")])
        self.assertEqual(part.answer("f()"), [1])
        self.assertEqual(part.answer("f()", "f()", "h(1)", G[0]), "a")
        self.assertIsNone(part.answer("h()"))
        self.assertIsNone(part.answer("f()", "h()"))

    def test_ageing(self):
        part = Part([(F, 1), (("f()", "f()"), 2), (("g()", "f()"), ("raises", "Full", "Error"))], ageing=True)
        self.assertEqual(part.answer("f()"), 1)
        self.assertEqual(part.answer("f()", "f()"), 2)
        self.assertEqual(part.answer("g()", "f()"), ("raises", "Full", "Error"))
        for calls in (("g()",), ("f()", "g()"), ("f()", "f()", "f()"), ("f()", "g()", "f()")):
            self.assertIsNone(part.answer(*calls))

    def test_called(self):
        part = Part([(F, ("raises", "Full", "Error")), (G, [1, None]), (("h()",), ("raises", "Odd", None))])
        self.assertEqual(part(G[0]), [1, None])
        self.assertEqual(part(call=G[0], before=("f()",)), [1, None])
        self.assertIsNone(part("k()"))
        for call, kind, cause in (("f()", "Full", "Error"), ("h()", "Odd", None)):
            with self.assertRaises(Raised) as caught:
                part(call, ("f()", "k()"))
            self.assertEqual((caught.exception.kind, caught.exception.cause), (kind, cause))

    def test_called_with_calls_before(self):
        part = Part([(F, 1), (("f()", "f()"), 2), (LONG, ("raises", "Full", None))], ageing=True)
        self.assertEqual(part("f()"), 1)
        self.assertEqual(part("f()", ()), 1)
        self.assertEqual(part("f()", ("f()",)), 2)
        self.assertIsNone(part("f()", before=("f()", "f()")))
        self.assertIsNone(part(LONG[2], ("f()",)))
        with self.assertRaises(Raised):
            part(LONG[2], ("f()", "f()"))

    def test_answers_are_new(self):
        for ageing in (False, True):
            part = Part([(F, [1, 2])], ageing=ageing)
            part.answer("f()").append(3)
            part("f()").clear()
            part.entries[0][1].append(4)
            self.assertEqual((part.answer("f()"), part("f()"), part.weight), ([1, 2], [1, 2], 3))
            self.entries(part, [(F, [1, 2])])


class Together(Base):
    def test_equality(self):
        one = Part([(F, [1]), (G, 2)])
        for other in (Part([(G, 2), (F, [1])]), Part(((F, [1]), (G, 2), (("h()",), None))), Part.steady({"f()": [1], G[0]: 2})):
            self.assertTrue(one == other and not one != other)
        for other in (Part([(F, [1])]), Part([(F, [2]), (G, 2)]), Part([(F, [1]), (G, "a")]), Part(),
                      Part([(F, [1]), (G, 2)], ageing=True), one.entries, None, 2, dict(one.entries), [1]):
            self.assertTrue(one != other and not one == other)
        self.assertNotEqual(Part([(F, 0)]), Part([(F, "")]))
        self.assertEqual(Part([(LONG, 1)], ageing=True), Part([(LONG, 1)], ageing=True))

    def test_either(self):
        one = Part([(F, 1), (("h()",), 0), (("k()",), None)])
        other = Part([(F, 2), (G, [3]), (("h()",), "a"), (("k()",), "")])
        self.entries(one | other, [(F, 1), (G, [3]), (("h()",), 0), (("k()",), "")])
        self.entries(other | one, [(F, 2), (G, [3]), (("h()",), "a"), (("k()",), "")])
        self.entries(one, [(F, 1), (("h()",), 0)])
        self.entries(other, [(F, 2), (G, [3]), (("h()",), "a"), (("k()",), "")])
        self.assertEqual(one | Part(), one)
        self.assertEqual(Part() | one, one)
        self.assertIsNot(one | Part(), one)

    def test_either_ageing(self):
        one = Part([(F, 1), (LONG, ("raises", "Error", None))], ageing=True)
        other = Part([(LONG, 2), (("f()", "f()"), [])], ageing=True)
        self.entries(one | other, [(F, 1), (("f()", "f()"), []), (LONG, ("raises", "Error", None))])
        self.entries(other | one, [(F, 1), (("f()", "f()"), []), (LONG, 2)])
        self.assertIs((one | other).ageing, True)

    def test_either_shares_nothing(self):
        one, other = Part([(F, [1])]), Part([(G, [2])])
        both = one | other
        both.answer("f()").append(1)
        both.answer(G[0]).append(1)
        self.entries(one, [(F, [1])])
        self.entries(other, [(G, [2])])
        self.entries(both, [(F, [1]), (G, [2])])


class Steady(Base):
    def test_right(self):
        part = Part.steady({"g()": [1], "f()": 2, "a(1)": None, "f(1)": ("raises", "Odd", None)})
        self.entries(part, [(("f()",), 2), (("f(1)",), ("raises", "Odd", None)), (("g()",), [1])])
        self.assertIs(part.ageing, False)
        self.assertEqual(Part.steady({}), Part())
        self.assertEqual(Part.steady(answers={"f()": 1}), Part([(F, 1)]))

    def test_wrong(self):
        for text in ("", "f", "f( )", "F()", "f(01)", "if()", " f()", "f()\n", "f(1,2)"):
            self.refuse(0, {text: 1}, make=Part.steady)
        for answer in NO_ANSWERS:
            self.refuse(0, {"f()": answer}, make=Part.steady)
            self.refuse(1, {"f()": answer, "e()": 1, "g()": True}, make=Part.steady)
            self.refuse(2, {"z()": [], "g()": answer, "e()": 1, "f()": None}, make=Part.steady)

    def test_the_order_of_the_strings(self):
        self.refuse(1, {"x": 1, "b()": 2, "z": 3}, make=Part.steady)
        self.refuse(1, {"z": 3, "x": 1, "b()": 2}, make=Part.steady)
        self.refuse(0, {"b()": 1, "A": True, "c()": True}, make=Part.steady)
        self.refuse(2, {"f(2)": True, "f(10)": 1, "f(1)": 1}, make=Part.steady)


if __name__ == "__main__":
    unittest.main()

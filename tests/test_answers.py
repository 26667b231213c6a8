"""Items, answers, weights (points 5 and 10) and the order of answers (point 6)."""

import itertools
import unittest

from whatpasses.answers import ascending, is_answer, is_item, total_weight, weight
from whatpasses.families import Family

ITEMS = (None, 0, 1, -1, 2, -2, 10 ** 39, -10 ** 39, 10 ** 5000, "", "a", "z", "none", "raises", "q" * 30)
NO_ITEMS = (
    True, False, "A", "aB", "a1", "a b", " ", "\n", "a\n", "-", "1", "`", "{", "q" * 31, "q" * 5000, (), (1,),
    ("raises",), {}, {"a": 1},
)
RAISED = (
    ("raises", "Error", None), ("raises", "Failed", "Error"), ("raises", "Nope", None), ("raises", "A", "Z"),
    ("raises", "Abcdefghijkl", "ABCDEFGHIJKL"),
)
NO_RAISED = (
    ("raises",), ("raises", "Error"), ("raises", "Error", None, None), ("raises", "Error", "Error", "Error"),
    ("returns", "Error", None), ("Raises", "Error", None), ("", "Error", None), (None, "Error", None),
    (["raises"], "Error", None), (True, "Error", None), ("Error", "raises", None), ("raises", None, None),
    ("raises", None, "Error"), ("raises", "error", None), ("raises", "", None), ("raises", "Abcdefghijklm", None),
    ("raises", "Er1", None), ("raises", 0, None), ("raises", True, None), ("raises", ["Error"], None),
    ("raises", ("Error",), None), ("raises", "Error", ""), ("raises", "Error", "error"), ("raises", "Error", 0),
    ("raises", "Error", False), ("raises", "Error", "Abcdefghijklm"), ("raises", "Error", ["Error"]),
    ("raises", "Error", ()), (1, 2, 3), ((), (), ()), ([], [], []), "raises", ["raises", "Error", None],
)


class Items(unittest.TestCase):
    def test_items(self):
        for thing in ITEMS:
            self.assertIs(is_item(thing), True)
        self.assertIs(is_item(thing=4), True)

    def test_what_is_no_item(self):
        for thing in (*NO_ITEMS, *RAISED, [], [1], [None], Family.plain()):
            self.assertIs(is_item(thing), False)

    def test_each_character_in_a_word(self):
        for character in map(chr, range(32, 127)):
            letter = "a" <= character <= "z"
            for word in (character, "a" + character, character + "a", "ab" + character + "ba"):
                self.assertIs(is_item(word), letter)
                self.assertIs(is_answer([1, word]), letter)

    def test_words_by_their_length(self):
        for length in range(60):
            self.assertIs(is_item("w" * length), length <= 30)


class Answers(unittest.TestCase):
    def test_items(self):
        for thing in ITEMS:
            self.assertIs(is_answer(thing), True)
        self.assertIs(is_answer(thing="ab"), True)
        for thing in NO_ITEMS:
            self.assertIs(is_answer(thing), False)

    def test_lists(self):
        for thing in ([], [None], list(ITEMS), [0] * 1000, ["q" * 30] * 3):
            self.assertIs(is_answer(thing), True)

    def test_lists_with_one_wrong_item(self):
        for wrong in (*NO_ITEMS, *RAISED, [], [1], [None]):
            for place in range(len(ITEMS) + 1):
                self.assertIs(is_answer([*ITEMS[:place], wrong, *ITEMS[place:]]), False)

    def test_raised_errors(self):
        for thing in RAISED:
            self.assertIs(is_answer(thing), True)

    def test_tuples_of_other_forms(self):
        for thing in NO_RAISED:
            if isinstance(thing, tuple):
                self.assertIs(is_answer(thing), False, thing)
        self.assertIs(is_answer(["raises", "Error", None]), False)
        self.assertIs(is_answer("raises"), True)

    def test_the_weight_of_each_kind(self):
        self.assertEqual(weight(None), 0)
        for answer in (0, 1, -1, 10 ** 40, "", "a", "q" * 30, *RAISED):
            self.assertEqual(weight(answer), 1)
        for length in range(12):
            self.assertEqual(weight([None] * length), 1 + length)
        self.assertEqual(weight(answer=["abc", 5, None]), 4)

    def test_the_weight_of_several(self):
        self.assertEqual(total_weight([]), 0)
        self.assertEqual(total_weight([None, 0, [], [None, None], "a", ("raises", "Error", None)]), 7)


class Order(unittest.TestCase):
    family = Family([("Zeta", None), ("Alfa", "Beyond")])
    items = [None, 0, 1, -1, 2, -2, 9, -9, 10, -10, 10 ** 39, -10 ** 39, 10 ** 39 + 1, "", "a", "b", "z", "aa", "ab",
             "az", "ba", "zz", "aaa", "q" * 30]
    classes = ["Error", "Failed", "Misuse", "Beyond", "Zeta", "Alfa", "A", "Abc", "Alfb", "Beta", "ZETA", "Zetb"]

    def whole_order(self):
        raised = [("raises", kind, cause) for kind in self.classes for cause in [None, *self.classes]]
        lists = [[], *[[item] for item in self.items]]
        lists += [[one, other] for one in self.items for other in self.items]
        return [*self.items, *raised, *lists, [None, None, None], [None, None, 0], [None, 0, None], [0, None, None]]

    def test_the_whole_order(self):
        rows = self.whole_order()
        self.assertEqual(ascending(self.family, *rows), rows)
        self.assertEqual(ascending(self.family, *rows[::-1]), rows)
        mixed = rows[1::2] + rows[::-2]
        self.assertCountEqual([repr(row) for row in mixed], [repr(row) for row in rows])
        self.assertEqual(ascending(self.family, *mixed), rows)

    def test_each_two_in_both_orders(self):
        rows = [None, 0, 1, -1, 2, "", "b", "aa", ("raises", "Error", None), ("raises", "Error", "Beyond"),
                ("raises", "Zeta", None), ("raises", "Alfa", "Nope"), ("raises", "Alpha", None), [], [0], [-1], ["a"],
                [None, None]]
        for one, other in itertools.combinations(rows, 2):
            self.assertEqual(ascending(self.family, one, other), [one, other])
            self.assertEqual(ascending(self.family, other, one), [one, other])

    def test_classes_that_the_family_does_not_have(self):
        rows = [("raises", kind, None) for kind in ("Zeta", "Alfa", "Aa")]
        self.assertEqual(ascending(self.family, *rows[::-1]), rows)
        rows = [("raises", kind, None) for kind in ("Aa", "Alfa", "Zeta")]
        self.assertEqual(ascending(Family.plain(), *rows[::-1]), rows)
        rows = [("raises", "Error", cause) for cause in (None, "Misuse", "Zeta", "Alfa", "ZZ", "Za")]
        self.assertEqual(ascending(self.family, *rows[::-1]), rows)

    def test_none_and_one(self):
        self.assertEqual(ascending(self.family), [])
        self.assertEqual(ascending(family=self.family), [])
        self.assertEqual(ascending(self.family, None), [None])

    def test_of_equal_ones_each_stays(self):
        self.assertEqual(ascending(self.family, [1], 2, [1], None, 2, "a", None, "a", [1]),
                         [None, None, 2, 2, "a", "a", [1], [1], [1]])
        raised = ("raises", "Nope", "Nope")
        self.assertEqual(ascending(self.family, raised, 0, raised), [0, raised, raised])

    def test_integers_of_many_digits(self):
        rows = [0, 10 ** 4999, 10 ** 5000, -10 ** 5000]
        self.assertEqual(ascending(self.family, *rows[::-1]), rows)

    def test_the_lists_are_new(self):
        one, other = [2, 1], [1]
        rows = ascending(self.family, one, other)
        self.assertEqual(rows, [[1], [2, 1]])
        self.assertIs(type(rows), list)
        rows[0].append("x")
        rows[1].clear()
        self.assertEqual((one, other), ([2, 1], [1]))
        self.assertEqual(ascending(self.family, one, other), [[1], [2, 1]])

    def test_equal_lists_stay_apart(self):
        one = [1]
        rows = ascending(self.family, one, one)
        rows[0].append(2)
        self.assertEqual(rows, [[1, 2], [1]])
        self.assertEqual(one, [1])


if __name__ == "__main__":
    unittest.main()

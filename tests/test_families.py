"""Families of error classes (point 4)."""

import inspect
import unittest
from unittest import mock

from whatpasses.errors import BadFamily, NoClass
from whatpasses.families import Family, is_class_name

FIRST = ["Error", "Failed", "Misuse", "Beyond"]
LETTERS = "ABCDEFGHIJKLMNOPQRSTUVWXYZ"
FORTY = ["K" + letter for letter in LETTERS] + ["L" + letter for letter in LETTERS[:14]]
TREE = (("Full", None), ("Heap", "Full"), ("Flat", "Beyond"), ("Deep", "Heap"), ("Full" + "x" * 8, "Failed"))
NO_NAMES = (
    "", "full", "fULL", "Full1", "Fu ll", "Fu_l", " Full", "Full ", "Full\n", "1", "F-", "Abcdefghijklm", "A" * 13,
    "A" * 500, "(", "@", "[", "`", "{", None, 0, 1, True, False, ("Full",), ["Full"], (), [], 10 ** 39,
)
NO_PAIRS = (
    None, 0, True, "Full", "Ab", "", [], ["Full", None], ["Full", "Error"], (), ("Full",), ("Full", None, None),
    ("Full", "Error", "Error"), (("Full", None),), [("Full", None)],
)
NO_PARENTS = (
    "", "error", "Nope", "Error ", "Full", "Later", 0, 1, True, False, ("Error",), ["Error"], (), [], (None,), [[]],
)


def nested(depth):
    value = []
    for _ in range(depth):
        value = [value]
    return value


class Refused(unittest.TestCase):
    def refuse(self, at, pairs):
        with self.assertRaises(BadFamily) as caught:
            Family(pairs)
        self.assertEqual(caught.exception.at, at)
        self.assertNotIsInstance(caught.exception.at, bool)

    def refuse_everywhere(self, entry):
        """The entry at the first place and at later ones, with right and wrong entries behind it."""
        self.refuse(0, [entry])
        self.refuse(0, (entry,))
        self.refuse(0, [entry, ("Later", None), entry])
        self.refuse(1, [("Aa", None), entry])
        self.refuse(1, (("Aa", None), entry, None))
        self.refuse(3, [("Aa", None), ("Ab", "Aa"), ("Ac", "Beyond"), entry, ("Later", None), entry])
        self.refuse(40, [(name, None) for name in FORTY] + [entry])

    def test_pairs_that_are_no_list_or_tuple(self):
        for pairs in (None, 0, 1, -1, True, False, "", "Full", 10 ** 39, {}, {"Full": None}, Family.plain()):
            self.refuse(-1, pairs)
        self.refuse(-1, iter([("Full", None)]))

    def test_entries_that_are_no_pairs(self):
        for entry in (*NO_PAIRS, nested(59)):
            self.refuse_everywhere(entry)

    def test_names_that_are_none(self):
        for name in (*NO_NAMES, nested(57)):
            self.refuse_everywhere((name, None))
            self.refuse_everywhere((name, "Error"))

    def test_names_that_are_there_by_then(self):
        for name in FIRST:
            for parent in (None, "Error", "Misuse"):
                self.refuse_everywhere((name, parent))
        self.refuse(1, [("Full", None), ("Full", None)])
        self.refuse(2, [("Full", None), ("Heap", "Full"), ("Full", "Heap")])
        self.refuse(3, [("Full", None), ("Heap", None), ("Flat", None), ("Heap", "Error")])

    def test_parents_that_are_none_by_then(self):
        for parent in (*NO_PARENTS, nested(57)):
            self.refuse_everywhere(("Full", parent))
        self.refuse(0, [("Heap", "Full"), ("Full", None)])
        self.refuse(1, [("Full", None), ("Heap", "Flat"), ("Flat", None)])

    def test_the_first_wrong_entry_counts(self):
        self.refuse(1, [("Full", None), ("heap", None), None, ("Full", None)])
        self.refuse(0, [None, None])


class Declared(unittest.TestCase):
    def test_none(self):
        for family in (Family([]), Family(()), Family(pairs=[]), Family.plain()):
            self.assertEqual(family.declared, ())
            self.assertEqual(family.names(), FIRST)
            self.assertEqual(len(family), 4)

    def test_the_first_classes(self):
        family = Family.plain()
        self.assertIsNone(family.parent("Error"))
        self.assertEqual([family.parent(name) for name in FIRST[1:]], ["Error", "Error", "Misuse"])

    def test_some(self):
        family = Family(TREE)
        self.assertEqual(family.declared, (("Full", "Error"), *TREE[1:]))
        self.assertIs(type(family.declared), tuple)
        for pair in family.declared:
            self.assertIs(type(pair), tuple)
        self.assertEqual(family.names(), FIRST + ["Full", "Heap", "Flat", "Deep", "Fullxxxxxxxx"])
        self.assertEqual(len(family), 9)
        self.assertEqual([family.parent(name) for name, _ in TREE], ["Error", "Full", "Beyond", "Heap", "Failed"])

    def test_the_order_is_that_of_the_declarations(self):
        self.assertEqual(Family([("Zz", None), ("Aa", None), ("Mm", "Zz")]).names(), FIRST + ["Zz", "Aa", "Mm"])

    def test_forty_classes(self):
        family = Family([(name, None) for name in FORTY])
        self.assertEqual(family.names(), FIRST + FORTY)
        self.assertEqual(len(family), 44)
        self.assertEqual([family.parent(name) for name in FORTY], ["Error"] * 40)

    def test_forty_classes_in_a_chain(self):
        family = Family(list(zip(FORTY, ["Beyond"] + FORTY)))
        self.assertEqual(family.parent("KA"), "Beyond")
        self.assertEqual(family.parent(FORTY[39]), FORTY[38])
        self.assertEqual(list(family.up(FORTY[39])), FORTY[::-1] + ["Beyond", "Misuse", "Error"])
        self.assertTrue(family.under(FORTY[39], FORTY[0]))
        self.assertTrue(family.under(FORTY[39], "Misuse"))
        self.assertFalse(family.under(FORTY[0], FORTY[39]))
        self.assertFalse(family.under(FORTY[39], "Failed"))

    def test_more_than_forty_classes_are_no_error(self):
        self.assertEqual(len(Family([("X" + a + b, None) for a in "abcdefg" for b in "abcdefg"])), 53)

    def test_names_of_one_to_twelve_letters(self):
        for name in ("A", "Z", "Aa", "AZ", "Az", "ABCDEFGHIJKL", "Abcdefghijkl", "Zzzzzzzzzzzz", "M" * 12, "Error" * 2):
            self.assertEqual(Family([(name, None)]).declared, ((name, "Error"),))
            self.assertEqual(Family([("Aaaa", None), (name, "Aaaa")]).parent(name), "Aaaa")
            self.assertTrue(is_class_name(name))
        for name in NO_NAMES:
            self.assertFalse(is_class_name(name))

    def test_each_character_in_a_name(self):
        for character in map(chr, range(32, 127)):
            self.assertIs(is_class_name(character), "A" <= character <= "Z")
            self.assertIs(is_class_name(character + "a"), "A" <= character <= "Z")
            letter = "A" <= character <= "Z" or "a" <= character <= "z"
            self.assertIs(is_class_name("A" + character), letter)
            self.assertIs(is_class_name("Ab" + character + "B"), letter)

    def test_names_differ_by_their_letters(self):
        self.assertEqual(Family([("ERROR", None), ("Errors", "ERROR")]).parent("Errors"), "ERROR")

    def test_a_list_that_is_changed_behind_the_call(self):
        pairs = [("Full", None), ("Heap", "Full")]
        family = Family(pairs)
        self.assertEqual(pairs, [("Full", None), ("Heap", "Full")])
        pairs.append(("Flat", None))
        pairs[0] = ("Else", None)
        self.assertEqual(family.declared, (("Full", "Error"), ("Heap", "Full")))
        self.assertEqual(family.names(), FIRST + ["Full", "Heap"])
        self.assertNotIn("Else", family)

    def test_names_is_a_new_list(self):
        family = Family(TREE)
        names = family.names()
        self.assertIs(type(names), list)
        names.clear()
        self.assertEqual(len(family.names()), 9)
        self.assertEqual(len(family), 9)

    def test_families_do_not_share_their_classes(self):
        Family([("Full", None)])
        self.assertNotIn("Full", Family.plain())
        self.assertEqual(Family([("Full", "Misuse")]).parent("Full"), "Misuse")


class Parents(unittest.TestCase):
    def test_names_that_are_no_class(self):
        family = Family(TREE)
        for name in (*NO_NAMES, "Nope", "heap", "Error ", ("Full", "Error"), {}, nested(60)):
            with self.assertRaises(NoClass) as caught:
                family.parent(name)
            self.assertIs(caught.exception.name, name)

    def test_by_name(self):
        self.assertEqual(Family(TREE).parent(name="Deep"), "Heap")


class Under(unittest.TestCase):
    def test_all_pairs_of_a_family(self):
        above = {
            "Error": ["Error"], "Failed": ["Failed", "Error"], "Misuse": ["Misuse", "Error"],
            "Beyond": ["Beyond", "Misuse", "Error"], "Full": ["Full", "Error"], "Heap": ["Heap", "Full", "Error"],
            "Flat": ["Flat", "Beyond", "Misuse", "Error"], "Deep": ["Deep", "Heap", "Full", "Error"],
            "Fullxxxxxxxx": ["Fullxxxxxxxx", "Failed", "Error"],
        }
        family = Family(TREE)
        self.assertEqual(set(above), set(family.names()))
        for one in above:
            self.assertEqual(list(family.up(one)), above[one])
            for other in above:
                self.assertIs(family.under(one, other), other in above[one], (one, other))

    def test_names_that_the_family_does_not_have(self):
        for family in (Family.plain(), Family(TREE)):
            self.assertEqual(list(family.up("Nope")), ["Nope", "Error"])
            self.assertIs(family.under("Nope", "Nope"), True)
            self.assertIs(family.under("Nope", "Error"), True)
            self.assertIs(family.under("Nope", "None"), False)
            for name in family.names():
                self.assertIs(family.under(name, "Nope"), False)
                self.assertIs(family.under("Nope", name), name == "Error")

    def test_by_name(self):
        self.assertTrue(Family(TREE).under(other="Full", one="Deep"))
        self.assertEqual(list(Family(TREE).up(name="Heap")), ["Heap", "Full", "Error"])

    def test_up_is_a_generator(self):
        self.assertTrue(inspect.isgenerator(Family.plain().up("Beyond")))
        steps = Family.plain().up("Beyond")
        self.assertEqual([next(steps), next(steps), next(steps), next(steps, "over")],
                         ["Beyond", "Misuse", "Error", "over"])


class Signs(unittest.TestCase):
    def test_in(self):
        family = Family(TREE)
        for name in family.names():
            self.assertIs(name in family, True)
        for thing in (*NO_NAMES, "Nope", ("Full", "Error"), ["Error"], {}, family, nested(60)):
            self.assertIs(thing in family, False)

    def test_equal_families(self):
        self.assertTrue(Family(TREE) == Family(list(TREE)))
        self.assertFalse(Family(TREE) != Family(list(TREE)))
        self.assertEqual(Family([("Full", None)]), Family([("Full", "Error")]))
        self.assertEqual(Family([]), Family.plain())

    def test_families_that_differ(self):
        one = Family([("Full", None), ("Heap", None)])
        for pairs in ([], [("Full", None)], [("Heap", None), ("Full", None)], [("Full", None), ("Heap", "Full")],
                      [("Full", None), ("Flat", None)], [("Full", None), ("Heap", None), ("Flat", None)]):
            self.assertFalse(one == Family(pairs))
            self.assertTrue(one != Family(pairs))

    def test_equal_to_nothing_of_another_class(self):
        family = Family(TREE)
        for thing in (None, 0, True, "", family.declared, list(family.declared), family.names(), mock.ANY):
            self.assertIs(family == thing, False)
            self.assertIs(family != thing, True)

    def test_plus(self):
        family = Family(TREE)
        more = family + ("Else", None)
        self.assertIsInstance(more, Family)
        self.assertEqual(more, Family([*TREE, ("Else", None)]))
        self.assertEqual(more + ("Last", "Else"), Family([*TREE, ("Else", None), ("Last", "Else")]))
        self.assertEqual(Family.plain() + ("Full", "Beyond"), Family([("Full", "Beyond")]))
        self.assertEqual(family, Family(TREE))
        self.assertEqual(len(family), 9)
        self.assertNotIn("Else", family)
        self.assertFalse(family.under("Last", "Else"))

    def test_plus_with_wrong_pairs(self):
        wrong = [(name, None) for name in NO_NAMES] + [("Else", parent) for parent in NO_PARENTS if parent != "Full"]
        wrong += [entry for entry in NO_PAIRS] + [("Else", "Else"), ("Error", None), ("Beyond", "Full"), {}]
        for family, at in ((Family.plain(), 0), (Family(TREE), 5), (Family([(name, None) for name in FORTY]), 40)):
            for pair in wrong:
                with self.assertRaises(BadFamily) as caught:
                    family + pair
                self.assertEqual(caught.exception.at, at)
        with self.assertRaises(BadFamily) as caught:
            Family(TREE) + ("Full", None)
        self.assertEqual(caught.exception.at, 5)
        with self.assertRaises(BadFamily) as caught:
            Family.plain() + ("Heap", "Full")
        self.assertEqual(caught.exception.at, 0)

    def test_plain_is_static(self):
        self.assertIsInstance(vars(Family)["plain"], staticmethod)
        self.assertEqual(Family(TREE).plain(), Family([]))


if __name__ == "__main__":
    unittest.main()

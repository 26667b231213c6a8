"""Surveys, finding, trees, ways and wrong parts compared with trying all, on tests made by chance from fixed seeds."""

import os
import random
import sys
import unittest

sys.path.insert(0, os.path.dirname(os.path.abspath(__file__)))

from brute import TooMany, all_parts, check_verdict, is_tree_by_trying, weight_of  # noqa: E402
from dice import Dice, ShortDice  # noqa: E402
from plain import Plain, plain_look, plain_order, plain_test  # noqa: E402

import whatpasses.ranking  # noqa: E402
from whatpasses.families import Family  # noqa: E402
from whatpasses.finding import find, ways  # noqa: E402
from whatpasses.judging import forces, judge, wrong_parts  # noqa: E402
from whatpasses.reading import Test  # noqa: E402
from whatpasses.runs import run  # noqa: E402
from whatpasses.suites import Suite  # noqa: E402
from whatpasses.surveys import Survey  # noqa: E402
from whatpasses.trees import is_certificate, is_tree  # noqa: E402

FAMILY = Family([("Full", "Error"), ("Heap", "Full")])
ABOVE = {name: FAMILY.parent(name) for name in FAMILY.names()}
PLACES = {name: at for at, name in enumerate(FAMILY.names())}
ROUNDS = int(os.environ.get("ROUNDS", "400"))
ITEMS = (None, 0, 1, -1, 2, "", "a", "b", 7, -12, 10 ** 30)


class Surveys(unittest.TestCase):
    def pool(self, dice, least):
        """Answers of every kind, and some that differ little from the least ones."""
        pool = [*ITEMS, *[dice.answer() for _ in range(30)], *[[item] for item in ITEMS]]
        for answer in dice.random.sample(least, min(len(least), 20)):
            if isinstance(answer, list):
                place, form = dice.random.randrange(len(answer) + 1), dice.random.randrange(3)
                pool.append(answer[:place] + ([] if form == 0 else [dice.item()]) + answer[place + (form < 2):])
            elif isinstance(answer, int):
                pool += [answer - 1, answer + 1, -answer]
        return pool

    def compare(self, dice, plains, survey, call):
        def look(answer):
            return repr(plain_look(plains, ABOVE, call, answer))

        least = survey.answers(call)
        places = [plain_order(PLACES, answer) for answer in least]
        self.assertEqual(places, sorted(places))
        some = least if len(least) <= 60 else dice.random.sample(least, 60)
        looks = {look(answer): answer for answer in some}
        self.assertEqual(len(looks), len(some))
        pool = self.pool(dice, least)
        for answer in pool:
            found = survey.least(call, answer)
            self.assertIn(repr(found), map(repr, least))
            self.assertEqual(look(found), look(answer), (call, answer))
            self.assertLessEqual(plain_order(PLACES, found), plain_order(PLACES, answer))
            other = dice.pick(pool)
            self.assertIs(survey.alike(call, answer, other), look(answer) == look(other), (call, answer, other))
        return len(least)

    def test_surveys(self):
        most = 0
        for seed in range(ROUNDS):
            dice = Dice(random.Random(seed))
            dice.calls = dice.calls[:dice.pick((1, 2, 6))]
            tests, plains = [], []
            while len(tests) < dice.pick((1, 2, 2)):
                text = "\n".join(dice.test("abc"[len(tests)], dice.pick((2, 3, 3))))
                plain = plain_test(text, ABOVE)
                if isinstance(plain, Plain):
                    plains.append(plain)
                    tests.append(Test.read(text, FAMILY))
            survey = Survey(tests)
            self.assertEqual(survey.calls(), sorted({call for plain in plains for call in plain.calls}))
            for call in survey.calls():
                most = max(most, self.compare(dice, plains, survey, call))
        self.assertGreater(most, 50)


class Parts(unittest.TestCase):
    def made(self, dice, seed):
        tests = []
        while len(tests) < dice.pick((1, 2, 3, 4)):
            lines = ["test " + "abcd"[len(tests)], *dice.rows(), "end"]
            if seed % 4 == 0:
                lines = Dice(dice.random).test("abcd"[len(tests)], 2)
            try:
                tests.append(Test.read("\n".join(lines), FAMILY))
            except ValueError:
                continue
        return tests

    def demands(self, dice, tests, parts):
        """Demands that are met or nearly met by one of the parts."""
        demands = []
        for test, end in zip(tests, dice.pick(parts)[1]):
            form = dice.random.randrange(8)
            if form < 5:
                demands.append((test, end.word, dice.pick((None, end.line))))
            elif form == 5:
                demands.append((test, "not passes", None))
            else:
                demands.append((test, dice.pick(("passes", "fails", "skips", "not passes")), dice.pick((None, None, 2, 3, 4))))
        dice.random.shuffle(demands)
        return demands + demands[:dice.pick((0, 0, 1))]

    def compare_ways(self, tests, ageing, parts, limit):
        best, wrong = {}, {}
        for known, ends in parts:
            way = tuple((end.rows, end.word) for end in ends)
            best[way] = min(best.get(way, 10 ** 9), weight_of(known))
            if all(ends[:-1]) and not ends[-1]:
                wrong[way] = best[way]

        def took(part):
            return tuple((end.rows, end.word) for end in [run(test, part) for test in tests])

        found = list(ways(tests, ageing=ageing))
        self.assertEqual([(part.weight, way) for way, part in found], sorted((weight, way) for way, weight in best.items()))
        self.assertEqual([took(part) for _, part in found], [way for way, _ in found])
        suite = Suite(FAMILY, *tests[:-1])
        bad = list(wrong_parts(suite, tests[-1], ageing=ageing, limit=limit))
        self.assertEqual([(part.weight, took(part)) for part in bad], sorted((best[way], way) for way in wrong)[:limit])
        verdict = judge(suite, tests[-1], ageing=ageing)
        self.assertIs(bool(verdict), bool(wrong))
        self.assertIs(forces(suite, tests[-1], ageing=ageing), not wrong)
        self.assertEqual(verdict.weight, min(best[way] for way in wrong) if wrong else None)

    def test_parts(self):
        seen = {True: 0, False: 0}
        for seed in range(ROUNDS):
            dice = ShortDice(random.Random(seed), 1 + seed % 3)
            tests = self.made(dice, seed)
            for ageing in (False, True):
                try:
                    parts = all_parts(tests, ageing, limit=600)
                except TooMany:
                    continue
                for _ in range(3):
                    demands = self.demands(dice, tests, parts)
                    verdict = find(demands, ageing=ageing)
                    seen[check_verdict(self, demands, verdict, ageing)] += 1
                    self.assertTrue(is_certificate(demands, verdict.certificate, ageing=ageing))
                self.compare_ways(tests, ageing, parts, dice.pick((None, None, 0, 1, 3)))
        self.assertGreater(min(seen.values()), ROUNDS // 2)

    def test_parts_with_few_boxes(self):
        most = whatpasses.ranking.MOST_BOXES
        for boxes in (0, 2):
            whatpasses.ranking.MOST_BOXES = boxes
            try:
                for seed in range(ROUNDS // 8):
                    dice = ShortDice(random.Random(seed), 1 + seed % 3)
                    tests = self.made(dice, seed)
                    for ageing in (False, True):
                        try:
                            self.compare_ways(tests, ageing, all_parts(tests, ageing, limit=300), None)
                        except TooMany:
                            continue
            finally:
                whatpasses.ranking.MOST_BOXES = most

    def test_trees_of_other_demands(self):
        said = {True: 0, False: 0}
        for seed in range(ROUNDS // 2):
            dice = ShortDice(random.Random(seed), 1 + seed % 2)
            tests = self.made(dice, 1)
            try:
                parts = all_parts(tests, False, limit=300)
            except TooMany:
                continue
            trees = []
            for _ in range(4):
                demands = self.demands(dice, tests, parts)
                found = find(demands)
                if not found:
                    trees.append((demands, found.certificate[1]))
            for demands, _ in trees:
                for _, tree in trees:
                    if self.indexes(tree) <= set(range(len(demands))):
                        right = is_tree_by_trying(demands, tree, False)
                        self.assertIs(is_tree(demands, tree), right)
                        said[right] += 1
        self.assertGreater(min(said.values()), 20)

    def indexes(self, tree):
        return {tree[1]} if tree[0] == "missed" else set().union(*[self.indexes(inner) for _, inner in tree[2]])


if __name__ == "__main__":
    unittest.main()

"""Answers by trying all: every part with the least answers, as far as tests ask, and every part behind a tree."""

from whatpasses.parts import Part
from whatpasses.runs import run
from whatpasses.surveys import Survey


class Asked(Exception):
    def __init__(self, path):
        self.path = path


class TooMany(Exception):
    pass


class Partial:
    """A part of which only some answers are known."""

    def __init__(self, known, ageing):
        self.known, self.ageing = known, ageing

    def answer(self, *calls):
        path = calls if self.ageing else calls[-1:]
        if path not in self.known:
            raise Asked(path)
        return self.known[path]


def all_parts(tests, ageing, known=None, survey=None, limit=5000):
    """A list of pairs (dict of the answers that were asked for, ends of the tests)."""
    survey = survey or Survey(tests)
    found, waiting = [], [known or {}]
    while waiting:
        here = waiting.pop()
        try:
            found.append((here, [run(test, Partial(here, ageing)) for test in tests]))
        except Asked as asked:
            waiting += [{**here, asked.path: answer} for answer in survey.answers(asked.path[-1])]
        if len(found) + len(waiting) > limit:
            raise TooMany()
    return found


def meets(end, word, line):
    if line is not None and end.line != line:
        return False
    return not end if word == "not passes" else end.word == word


def weight_of(known):
    return sum(0 if answer is None else 1 + len(answer) if isinstance(answer, list) else 1 for answer in known.values())


def good_weights(demands, ageing, limit=5000):
    """The weights of all parts (with the least answers) that meet the demands."""
    tests = [test for test, _, _ in demands]
    return [weight_of(known) for known, ends in all_parts(tests, ageing, limit=limit)
            if all(meets(end, word, line) for end, (_, word, line) in zip(ends, demands))]


def is_tree_by_trying(demands, tree, ageing):
    """Whether a tree of the right form is a tree of cases, by following each part through it."""
    survey = Survey([test for test, _, _ in demands])
    waiting = [(tree, {})]
    while waiting:
        node, known = waiting.pop()
        if node[0] == "missed":
            test, word, line = demands[node[1]]
            if any(meets(ends[0], word, line) for _, ends in all_parts([test], ageing, known, survey)):
                return False
            continue
        _, path, branches = node
        for answer in [known[path]] if path in known else survey.answers(path[-1]):
            targets = [tree for answers, tree in branches
                       if any(survey.alike(path[-1], answer, other) for other in answers)]
            if len(targets) != 1:
                return False
            waiting.append((targets[0], {**known, path: answer}))
    return True


def check_verdict(case, demands, verdict, ageing, limit=5000):
    """Compares a verdict with what trying all parts says; returns whether there is a part."""
    good = good_weights(demands, ageing, limit)
    case.assertIs(bool(verdict), bool(good))
    if not good:
        case.assertEqual((verdict.part, verdict.weight), (None, None))
        case.assertEqual(verdict.certificate[0], "never")
        case.assertTrue(is_tree_by_trying(demands, verdict.certificate[1], ageing))
        return False
    part = verdict.part
    case.assertIsInstance(part, Part)
    case.assertIs(part.ageing, ageing)
    case.assertEqual((verdict.weight, part.weight), (min(good), min(good)))
    case.assertEqual(verdict.certificate, ("part", part.entries))
    for test, word, line in demands:
        case.assertTrue(meets(run(test, part), word, line))
    return True

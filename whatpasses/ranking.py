"""Ranking: the ways that tests can take, those with the lightest parts first."""

from heapq import heappop, heappush

from whatpasses.fields import Field
from whatpasses.packing import joined, settled
from whatpasses.parts import Part
from whatpasses.runs import run
from whatpasses.searching import Search
from whatpasses.spreads import lowest

END_WORDS = ("passes", "fails", "skips")
# Parts that need more boxes than this are kept by a search instead.
MOST_BOXES = 20


class Group:
    """The parts for which the first tests take a way, and the next one none of those that are barred.

    They are kept in boxes, or, if there are too many boxes, by the lightest one alone.
    """

    def __init__(self, way, barred, boxes, lightest, heaviness):
        self.way = way
        self.barred = barred
        self.boxes = boxes
        self.lightest = lightest
        self.heaviness = heaviness


def lightest_in(survey, box, ageing):
    """The lightest part of a box."""
    return Part([(path, survey.spread(path[-1]).answer_at(lowest(mask))) for path, mask in box.items()], ageing=ageing)


class Ranking:
    """The groups that are still to be told apart, the lightest one first.

    words has for each test those with which it must end; without words any will do. Boxes say nothing of the tests that
    come later, so they are of use where any word will do.
    """

    def __init__(self, tests, ageing, words):
        self.tests = tests
        self.words = words or [END_WORDS for _ in tests]
        self.field = Field(tests, ageing)
        self.survey = self.field.survey
        self._mentions = [{call: True for call in test.calls()} for test in tests]
        self._groups = []
        self._queue = []
        if words is None:
            self._keep(Group((), (), [{}], {}, 0))
        else:
            self._keep_lightest((), ())

    def next_group(self):
        """Takes out the group with the least weight; None if there is none."""
        if not self._queue:
            return None
        _, at = heappop(self._queue)
        group = self._groups[at]
        self._groups[at] = None
        return group

    def part_of(self, group):
        """The lightest part of a group."""
        return lightest_in(self.survey, group.lightest, self.field.ageing)

    def tell_apart(self, group):
        """Puts groups in the place of this one that differ by the next test."""
        if group.boxes is None:
            self._part_lightest(group)
        else:
            self._part_boxes(group)

    def _keep(self, group):
        """Keeps a group."""
        heappush(self._queue, (group.heaviness, len(self._groups)))
        self._groups.append(group)

    def _part_boxes(self, group):
        """Tells the parts of the boxes apart by all that the next test does for them."""
        at = len(group.way)
        sorts = {}
        for box in group.boxes:
            for end, inner in self._ends(at, box):
                sorts.setdefault(end, []).append(inner)
        for end, boxes in sorts.items():
            fewer = joined(self.survey, settled(self.survey, boxes, self._mentions[at + 1:]))
            heaviness, first = min([(self.survey.heaviness_of(box), number) for number, box in enumerate(fewer)])
            kept = fewer if len(fewer) <= MOST_BOXES else None
            self._keep(Group((*group.way, end), (), kept, fewer[first], heaviness))

    def _ends(self, at, box):
        """What a test can come to for the parts of a box, rows and word, with the box of the parts each time."""
        chart = self.field.chart_of_rows(self.tests[at])
        found = []
        waiting = [(chart.first(), box)]
        while waiting:
            node, here = waiting.pop()
            if node.path is None:
                found.append(((node.spot.rows, node.place[0]), here))
                continue
            allowed = here[node.path] if node.path in here else self.survey.spread(node.path[-1]).full
            for mask, target in chart.edges(node):
                if mask & allowed:
                    waiting.append((target, {**here, node.path: mask & allowed}))
        return found

    def _part_lightest(self, group):
        """Tells those for which the next test does the same as for the lightest part from all others."""
        at = len(group.way)
        end = run(self.tests[at], self.part_of(group))
        own = (end.rows, end.word)
        self._keep(Group((*group.way, own), (), None, group.lightest, group.heaviness))
        self._keep_lightest(group.way, (*group.barred, own))

    def _keep_lightest(self, way, barred):
        """Keeps the group of this way without the barred ones, by its lightest part, if there is one."""
        at = len(way)
        goals = [self.field.way_goal(test, (word,), rows, ()) for test, (rows, word) in zip(self.tests, way)]
        goals.append(self.field.way_goal(self.tests[at], self.words[at], None, barred))
        for test, words in zip(self.tests[at + 1:], self.words[at + 1:]):
            goals.append(self.field.way_goal(test, words, None, ()))
        search = Search(self.survey, goals, None, False)
        search.solve({})
        if search.found is not None:
            self._keep(Group(way, barred, None, search.found, search.bound))


def ranked(tests, ageing, words):
    """Pairs of a way and the lightest part that takes it, the lightest parts first, of the same weight by the ways.

    words, if given, has for each test the words with which it must end.
    """
    ranking = Ranking(tests, ageing, words)
    ready = []
    heaviness = 0
    group = ranking.next_group()
    while group is not None:
        if group.heaviness > heaviness:
            for own in sorted(ready, key=lambda row: row.way):
                yield own.way, ranking.part_of(own)
            ready = []
            heaviness = group.heaviness
        if len(group.way) == len(tests):
            ready.append(group)
        else:
            ranking.tell_apart(group)
        group = ranking.next_group()
    for own in sorted(ready, key=lambda row: row.way):
        yield own.way, ranking.part_of(own)

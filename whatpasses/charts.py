"""Charts: the courses that a test can take, as nodes that lead to each other by sets of answers."""

from whatpasses.courses import begun, further
from whatpasses.looks import column_of
from whatpasses.moves import failure, landed, reply
from whatpasses.spreads import lowest


class Node:
    """A place in the course of a test: a question about the answer for a path, or an end, which has no path.

    Its place is the line, the step and the flags of the question, or the word and the line of the end.
    """

    def __init__(self, number, spot, path, place):
        self.number = number
        self.spot = spot
        self.path = path
        self.place = place


def place_of(spot):
    """The place at which a spot is in its test."""
    if spot.way is None:
        return (spot.row.line, spot.step, spot.flags)
    word, line, _, _ = spot.way
    return (word, line)


class Chart:
    """The nodes of one test; if it is by rows, nodes that are reached by different rows are different ones."""

    def __init__(self, survey, test, ageing, by_rows):
        self.survey = survey
        self.test = test
        self.ageing = ageing
        self.by_rows = by_rows
        # Equal tests ask the same, so the survey has one of them.
        self._at = survey.tests.index(test)
        self._nodes = {}
        self._edges = {}
        self._splits = {}
        self._raised = {}

    def first(self):
        """The node at which the test begins."""
        return self._node(begun(self.test))

    def _node(self, spot):
        """The node of a spot."""
        key = self._key(spot)
        if key not in self._nodes:
            path = None
            if spot.way is None:
                path = spot.made[:spot.number + 1] if self.ageing else (spot.made[spot.number],)
            self._nodes[key] = Node(len(self._nodes), spot, path, place_of(spot))
        return self._nodes[key]

    def _key(self, spot):
        """What tells nodes apart; what happens behind spots of the same node depends on the answers alone."""
        rows = spot.rows if self.by_rows else ()
        if not self.ageing or spot.way is not None:
            return (place_of(spot), rows)
        return (place_of(spot), rows, spot.number, spot.made, tuple(sorted(list(spot.lets.items()))))

    def edges(self, node):
        """Pairs of a set of answers to the question and the node to which they lead; each answer is in one set."""
        if node.number not in self._edges:
            sets = {}
            targets = {}
            for mask, learned in self._splits_at(node):
                target = self._node(further(self.test, node.spot, learned))
                targets[target.number] = target
                sets[target.number] = sets.get(target.number, 0) | mask
            self._edges[node.number] = [(sets[number], targets[number]) for number in targets]
        return self._edges[node.number]

    def _splits_at(self, node):
        """Pairs of a set of answers and what the question learns from them."""
        if node.place not in self._splits:
            spot = node.spot
            spread = self.survey.spread(node.path[-1])
            sets = {}
            for mask in self._sorts_at(spot, spread):
                learned = reply(self.test.family, spot.row, spot.step, spot.flags, spread.leasts[lowest(mask)])
                sets[learned] = sets.get(learned, 0) | mask
            splits = [(mask, learned) for learned, mask in sets.items()]
            self._splits[node.place] = [*splits, *self._raised_at(spot.row, node.path[-1])]
        return self._splits[node.place]

    def _sorts_at(self, spot, spread):
        """Sets of answers of which the question learns the same, without the raised errors."""
        row = spot.row
        if row.word == "for":
            return spread.sorts(("for", self._at, row.line))
        if row.literals:
            return spread.sorts(column_of(row.literals[spot.step].atom))
        return [spread.unraised]

    def _raised_at(self, row, call):
        """The sets of raised errors that lead from a row to the same one or the same end, each with one of them."""
        if (row.line, call) not in self._raised:
            spread = self.survey.spread(call)
            sets = {}
            for number in spread.raised:
                answer = spread.leasts[number]
                _, kind, cause = answer
                target, way = landed(self.test.family, row, failure(row, kind, cause))
                key = way[:2] if target is None else target.line
                mask, first = sets.get(key, (0, answer))
                sets[key] = (mask | 1 << number, first)
            self._raised[(row.line, call)] = list(sets.values())
        return self._raised[(row.line, call)]

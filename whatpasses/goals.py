"""Goals: how tests must end, and what a goal can still ask for."""

OPEN = 0
REACHED = 1
MISSED = -1


def is_demanded(word, line, end):
    """Whether an end, a word and a line, is as demanded."""
    ended, at = end
    if word == "not passes":
        return ended != "passes" and (line is None or line == at)
    return ended == word and (line is None or line == at)


class Goal:
    """How one test must end. The classes below say which ends fit, and for which nodes this is settled."""

    def __init__(self, chart, prospects):
        self.chart = chart
        self.prospects = prospects
        self._states = {place: self._state_of(prospect.ends) for place, prospect in prospects.items()}
        self._needs = self._weighed() if chart.ageing else {}

    def fits(self, end):
        """Whether an end, a word and a line, is one of those that are wanted."""
        raise NotImplementedError("a class below says it")

    def _state_of(self, ends):
        """What all of these ends have in common."""
        good = [self.fits(end) for end in ends]
        if all(good):
            return REACHED
        return OPEN if any(good) else MISSED

    def state_there(self, node):
        """Whether all ends that can come behind this node fit, or none does."""
        if node.path is None:
            return self._state_of([node.place])
        return self._states[node.place]

    def _weighed(self):
        """For the place of each open question a weight that new answers have at least before the goal is reached.

        This is for ageing parts: each call that is made has a path of its own.
        """
        needs = {}
        for place, prospect in self.prospects.items():
            if self._states[place] == OPEN:
                spread = self.chart.survey.spread(prospect.call)
                weights = []
                for mask, target, end in prospect.turns:
                    state = self._state_of([end]) if target is None else self._states[target]
                    if state != MISSED:
                        own = spread.weight_of(mask) if prospect.is_new else 0
                        weights.append(own + needs.get(target, 0))
                needs[place] = min(weights)
        return needs

    def need(self, node):
        """A weight that answers for paths beyond this node have at least before the goal is reached."""
        return self._needs.get(node.place, 0)

    def is_beyond(self, node, path):
        """Whether this is one of the paths that the need is about."""
        made = node.spot.made
        least = len(made) if self.prospects[node.place].is_new else len(made) + 1
        return len(path) >= least and path[:len(made)] == made

    def known_paths(self, node):
        """The paths from before that can be asked about from an open node on; for steady parts all that can be."""
        prospect = self.prospects[node.place]
        if not self.chart.ageing:
            return [(call,) for call in prospect.mentions]
        made = node.spot.made
        lets = node.spot.lets
        return [node.path, *[made[:lets[name] + 1] for name in prospect.let_names if name in lets]]


class EndGoal(Goal):
    """The goal that a demand sets."""

    def __init__(self, chart, prospects, word, line):
        self.word = word
        self.line = line
        Goal.__init__(self, chart, prospects)

    def fits(self, end):
        """Whether an end, a word and a line, is as demanded."""
        return is_demanded(self.word, self.line, end)

    def state(self, node):
        """Whether all parts that come to this node reach the goal, or none does."""
        return self.state_there(node)


class WayGoal(Goal):
    """The goal that a test ends with one of some words, by given rows if there are any, and in no barred way.

    The chart tells apart by which rows a node is reached.
    """

    def __init__(self, chart, prospects, words, rows, barred):
        self.words = words
        self.rows = rows
        self.barred = barred
        Goal.__init__(self, chart, prospects)

    def fits(self, end):
        """Whether an end, a word and a line, has one of the words."""
        return end[0] in self.words

    def state(self, node):
        """Whether all parts that come to this node reach the goal, or none does."""
        state = self.state_there(node)
        rows = node.spot.rows
        if self.rows is not None and self.rows[:len(rows)] != rows:
            return MISSED
        if node.path is None:
            wrong = (rows, node.place[0]) in self.barred or self.rows not in (None, rows)
            return MISSED if wrong else state
        surely = self.rows is None and not any([own[:len(rows)] == rows for own, _ in self.barred])
        return state if surely or state == MISSED else OPEN


def related(paths):
    """For each of these paths the shortest one of them that it begins with."""
    roots = {}
    root = None
    # Behind a path come, in this order, all those that begin with it.
    for path in sorted(set(paths)):
        if root is None or path[:len(root)] != root:
            root = path
        roots[path] = root
    return roots


def apart(goals, nodes):
    """The numbers of open goals in groups that cannot ask for the same path any more; nodes are those of the goals."""
    claims = {number: goals[number].known_paths(node) for number, node in nodes.items()}
    ageing = {number: node for number, node in nodes.items() if goals[number].chart.ageing}
    roots = related([node.spot.made for node in ageing.values()])
    for number, node in ageing.items():
        claims[number].append(roots[node.spot.made])
    groups = []
    for number, paths in claims.items():
        mine = {path: True for path in paths}
        members = [number]
        others = []
        for own, numbers in groups:
            if any([path in own for path in mine]):
                mine = {**own, **mine}
                members = [*numbers, *members]
            else:
                others.append((own, numbers))
        groups = [*others, (mine, members)]
    return [members for _, members in groups]

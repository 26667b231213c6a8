"""Searching: the lightest part for which tests end as wanted, or why there is none.

A box says which answers a part can give: a dict from paths to sets of least answers; for other paths all are allowed.
A reason is a box, too: what was found out holds for all parts in it. A proof is the number of a goal that no part in
its box reaches, or a pair of a path and a list of pairs (set, proof) for the answers to it. Where parts are only too
heavy, there is None in its place; this comes only behind a bound, so not where no part is found at all.
"""

from whatpasses.goals import MISSED, OPEN, apart
from whatpasses.spreads import lowest


class Stand:
    """A box and, for each goal that not all of its parts reach, the node to which they all come and the trail there.

    A trail is a tuple of pairs (path, set), one for each question. The heaviness is the least weight in the box.
    """

    def __init__(self, box, heaviness, places):
        self.box = box
        self.heaviness = heaviness
        self.places = places


class Frame:
    """A stand whose parts are told apart by their answers for one path, and what was found out about some of them."""

    def __init__(self, stand, path, allowed, full, branches):
        self.stand = stand
        self.path = path
        self.allowed = allowed
        self.full = full
        # Sets of answers that are still to be looked at, the one to begin with last.
        self.branches = branches
        self.left = allowed
        self.covered = 0
        # The reason as far as other paths are concerned.
        self.elsewhere = {}
        self.proofs = []

    def take(self, reason, proof):
        """Takes what was found out about some of the parts."""
        covers = reason.get(self.path, self.full)
        if self.allowed & ~covers == 0:
            # The answer for the path does not matter, so nothing else that was found out here is needed.
            self.elsewhere = {}
            self.proofs = []
            self.covered = 0
        self.covered = self.covered | covers
        self.left = self.left & ~covers
        self.proofs.append((covers, proof))
        for path, mask in reason.items():
            if path != self.path:
                self.elsewhere[path] = self.elsewhere.get(path, mask) & mask

    def conclusion(self):
        """What was found out about all parts of the stand: a reason and a proof."""
        reason = {path: mask for path, mask in self.elsewhere.items()}
        if self.covered != self.full:
            reason[self.path] = self.covered
        if len(self.proofs) == 1:
            return reason, self.proofs[0][1]
        return reason, (self.path, self.proofs)


def narrowed(reason, trail):
    """Narrows a reason to the parts that take this trail."""
    for path, mask in trail:
        reason[path] = reason.get(path, mask) & mask
    return reason


class Search:
    """Looks for the lightest part that reaches all goals, among those that are lighter than the bound if there is one.

    Parts are told apart only where a goal asks for it. What was found out about some parts is kept with its reason, so
    that others for which it holds, too, are not looked at. If it is quick, the first part that is found is enough.
    """

    def __init__(self, survey, goals, bound, quick):
        self.survey = survey
        self.goals = goals
        self.bound = bound
        self.quick = quick
        # The box of the lightest part that was found.
        self.found = None

    def solve(self, box):
        """The proof that no part of the box is wanted; of no meaning if one was found."""
        places = {number: (goal.chart.first(), ()) for number, goal in enumerate(self.goals)}
        stand = Stand({path: mask for path, mask in box.items()}, self.survey.heaviness_of(box), places)
        _, proof = self.decided(stand, list(places))
        return proof

    def decided(self, stand, numbers):
        """Finds the lightest part of a stand, or why there is none (that is lighter): a reason and a proof."""
        known = self._known(stand, numbers)
        frames = [self._frame(stand)] if known is None else []
        while frames and not (self.quick and self.found is not None):
            frame = frames[-1]
            child = self._child(frame)
            if child is None:
                known = frame.conclusion()
                frames.pop()
            else:
                asking = [number for number, (node, _) in child.places.items() if node.path == frame.path]
                known = self._known(child, asking)
                if known is None:
                    frames.append(self._frame(child))
                    continue
            if frames:
                frames[-1].take(*known)
        return known

    def _spread(self, path):
        """The least answers for a path."""
        return self.survey.spread(path[-1])

    def _allowed(self, box, path):
        """The answers for a path that a box allows."""
        return box[path] if path in box else self._spread(path).full

    def _child(self, frame):
        """The next stand to look at, with fewer answers for the path of the frame; None if nothing is left."""
        while frame.branches:
            mask = frame.branches.pop() & frame.left
            if mask:
                stand = frame.stand
                spread = self._spread(frame.path)
                more = spread.weight_of(mask) - spread.weight_of(frame.allowed)
                box = {path: own for path, own in stand.box.items()}
                box[frame.path] = mask
                places = {number: place for number, place in stand.places.items()}
                return Stand(box, stand.heaviness + more, places)
        return None

    def _known(self, stand, numbers):
        """What is known about a stand at once, a reason and a proof; None if its parts must be told apart.

        numbers are those of the goals that may move on.
        """
        for number in numbers:
            goal = self.goals[number]
            node, trail = self._moved(goal, stand, number)
            state = goal.state(node)
            if state == MISSED:
                return narrowed({}, trail), number
            if state == OPEN:
                stand.places[number] = (node, trail)
            else:
                del stand.places[number]
        heaviness, lead = self._burden(stand)
        if self.bound is not None and heaviness >= self.bound:
            return self._too_heavy(stand, heaviness, lead), None
        if not stand.places:
            self.found = stand.box
            self.bound = stand.heaviness
            return self._too_heavy(stand, heaviness, lead), None
        groups = apart(self.goals, {number: node for number, (node, _) in stand.places.items()})
        return None if len(groups) == 1 else self._parted(stand, groups)

    def _moved(self, goal, stand, number):
        """The node to which all parts of a stand come for a goal, and the trail that leads there."""
        node, trail = stand.places[number]
        while goal.state(node) == OPEN:
            allowed = self._allowed(stand.box, node.path)
            edges = [edge for edge in goal.chart.edges(node) if edge[0] & allowed]
            if len(edges) > 1:
                break
            mask, target = edges[0]
            trail = (*trail, (node.path, mask))
            node = target
        return node, trail

    def _burden(self, stand):
        """A weight that all wanted parts of a stand have at least, and the goal that adds most to that of the box."""
        most = 0
        lead = None
        for number, (node, _) in stand.places.items():
            need = self.goals[number].need(node)
            if need > most:
                for path, mask in stand.box.items():
                    if self.goals[number].is_beyond(node, path):
                        need = need - self._spread(path).weight_of(mask)
                if need > most:
                    most = need
                    lead = number
        return stand.heaviness + most, lead

    def _too_heavy(self, stand, heaviness, lead):
        """A reason why parts of a stand are not lighter than the bound; what was asked last is left out first."""
        slack = heaviness - self.bound
        reason = {}
        node, trail = (None, ()) if lead is None else stand.places[lead]
        for path in reversed(list(stand.box)):
            if lead is None or not self.goals[lead].is_beyond(node, path):
                spread = self._spread(path)
                own = spread.weight_of(stand.box[path])
                least = own - min(own, slack)
                slack = slack - (own - least)
                if least > 0:
                    reason[path] = spread.at_least(least)
        return narrowed(reason, trail)

    def _parted(self, stand, groups):
        """The same as `_known` for a stand with groups of goals that have no more paths in common."""
        firsts = []
        # Whether there is a part at all is settled for all groups before the lightest ones are looked for.
        for numbers in groups:
            first, known = self._group(stand, numbers, self.bound, True)
            if first.found is None:
                return known
            firsts.append(first)
        heaviness = stand.heaviness + sum([first.bound - stand.heaviness for first in firsts])
        enough = self.quick and (self.bound is None or heaviness < self.bound)
        box = {path: mask for path, mask in stand.box.items()}
        heaviness = stand.heaviness
        for numbers, first in zip(groups, firsts):
            best = first if enough else self._lighter(stand, numbers, first)
            heaviness = heaviness + best.bound - stand.heaviness
            for path, mask in best.found.items():
                if mask != self._allowed(stand.box, path):
                    box[path] = mask
        if self.bound is None or heaviness < self.bound:
            self.found = box
            self.bound = heaviness
        return self._as_before(stand), None

    def _group(self, stand, numbers, bound, quick):
        """A search for some of the goals of a stand, and what is known behind it."""
        search = Search(self.survey, self.goals, bound, quick)
        places = {number: stand.places[number] for number in numbers}
        known = search.decided(Stand(stand.box, stand.heaviness, places), [])
        return search, known

    def _lighter(self, stand, numbers, first):
        """The search that has found the lightest part for some of the goals; first has found one."""
        search, _ = self._group(stand, numbers, first.bound, False)
        return first if search.found is None else search

    def _as_before(self, stand):
        """The box of parts for which all is as heavy as for those of a stand."""
        nodes = [(self.goals[number], node) for number, (node, _) in stand.places.items()]
        known = {path: True for goal, node in nodes for path in goal.known_paths(node)}
        reason = {}
        for path, mask in stand.box.items():
            spread = self._spread(path)
            beyond = any([goal.chart.ageing and goal.is_beyond(node, path) for goal, node in nodes])
            reason[path] = mask if path in known or beyond else spread.at_least(spread.weight_of(mask))
        for _, trail in stand.places.values():
            narrowed(reason, trail)
        return reason

    def _frame(self, stand):
        """The frame of a stand: a goal is looked at that leaves the fewest sets of answers."""
        fewest = None
        for number, (node, _) in stand.places.items():
            live = self._live(self.goals[number], node, stand.box)
            if fewest is None or len(live) < len(fewest[1]):
                fewest = (number, live)
        number, live = fewest
        node, trail = stand.places[number]
        branches = [mask for _, _, mask in sorted(live, reverse=True)]
        frame = Frame(stand, node.path, self._allowed(stand.box, node.path), self._spread(node.path).full, branches)
        edges = self.goals[number].chart.edges(node)
        dead = sum([mask for mask, target in edges if self.goals[number].state(target) == MISSED])
        if dead & frame.allowed:
            frame.take(narrowed({}, [*trail, (node.path, dead)]), number)
        return frame

    def _live(self, goal, node, box):
        """The sets of answers with which a goal can still be reached from a node.

        They stand in triples, first the weight and the number by which it is chosen where to begin.
        """
        allowed = self._allowed(box, node.path)
        spread = self._spread(node.path)
        live = []
        for mask, target in goal.chart.edges(node):
            if mask & allowed and goal.state(target) != MISSED:
                weight = spread.weight_of(mask & allowed) + goal.need(target)
                live.append((weight, lowest(mask & allowed), mask & allowed))
        return live

"""Writing: proofs of a search as trees of cases."""

from whatpasses.spreads import numbers_in


class Sketch:
    """A split that is being written: the cases that wait, as pairs (set, proof), and those that are written."""

    def __init__(self, path, box, waiting):
        self.path = path
        self.box = box
        self.waiting = waiting
        self.cases = []
        self._leaves = {}

    def take(self, mask, tree):
        """Takes the tree for these answers; there is one case for each demand that is missed at once."""
        if tree[0] == "missed":
            if tree in self._leaves:
                at = self._leaves[tree]
                self.cases[at] = (self.cases[at][0] | mask, tree)
                return
            self._leaves[tree] = len(self.cases)
        self.cases.append((mask, tree))

    def written(self, spread):
        """The tree of this split; where all cases miss the same demand, nothing need be told apart."""
        if len(self.cases) == 1:
            return self.cases[0][1]
        branches = []
        for mask, tree in self.cases:
            branches.append((tuple([spread.answer_at(number) for number in numbers_in(mask)]), tree))
        return ("split", self.path, tuple(branches))


def sketched(survey, proof, box):
    """The first split of a proof that parts of the box leave by several branches, or the leaf to which all come."""
    while isinstance(proof, tuple):
        path, branches = proof
        left = box[path] if path in box else survey.spread(path[-1]).full
        waiting = []
        for mask, inner in branches:
            if mask & left:
                waiting.append((mask & left, inner))
                left = left & ~mask
        if len(waiting) > 1:
            return Sketch(path, box, waiting)
        proof = waiting[0][1]
    return ("missed", proof)


def tree_of(survey, proof):
    """The tree of cases of a proof that holds for all parts."""
    first = sketched(survey, proof, {})
    if isinstance(first, tuple):
        return first
    # Each sketch with the answers for which it is written.
    sketches = [(0, first)]
    while True:
        mask, top = sketches[-1]
        if top.waiting:
            own, proof = top.waiting.pop()
            inner = sketched(survey, proof, {**top.box, top.path: own})
            if isinstance(inner, tuple):
                top.take(own, inner)
            else:
                sketches.append((own, inner))
            continue
        sketches.pop()
        above = sketches[-1][1] if sketches else None
        if above is not None and above.path == top.path:
            # Splits by the same path, one within the other, are one split.
            cases = list(top.cases)
            for own, inner in cases:
                above.take(own, inner)
            continue
        tree = top.written(survey.spread(top.path[-1]))
        if above is None:
            return tree
        above.take(mask, tree)

"""Trees of cases and certificates: whether any value is one for given demands."""

from whatpasses.answers import is_answer
from whatpasses.calls import is_path
from whatpasses.fields import Field
from whatpasses.finding import expect_demands
from whatpasses.goals import is_demanded
from whatpasses.kinds import is_integer
from whatpasses.parts import Part, is_entry
from whatpasses.runs import run
from whatpasses.searching import Search


def is_leaf(thing):
    """Whether any value is a leaf, whatever its index."""
    return isinstance(thing, tuple) and len(thing) == 2 and thing[0] == "missed" and is_integer(thing[1])


def is_branch(thing):
    """Whether any value is a pair of answers and something else."""
    if not isinstance(thing, tuple) or len(thing) != 2:
        return False
    answers, _ = thing
    return isinstance(answers, tuple) and len(answers) > 0 and all([is_answer(answer) for answer in answers])


def is_split(thing):
    """Whether any value is a split, whatever its path and the trees in it."""
    if not isinstance(thing, tuple) or len(thing) != 3 or thing[0] != "split":
        return False
    branches = thing[2]
    return isinstance(branches, tuple) and len(branches) > 0 and all([is_branch(branch) for branch in branches])


class Cases:
    """Says of each piece of a tree whether it is right for the parts that come there."""

    def __init__(self, demands, ageing):
        self.ageing = ageing
        self.field = Field([test for test, _, _ in demands], ageing)
        self.goals = [self.field.goal(*demand) for demand in demands]
        self._calls = self.field.survey.calls()

    def is_missed(self, index, box):
        """Whether no part of the box meets the demand with this index; None stands for no part at all."""
        if not 0 <= index < len(self.goals):
            return False
        if box is None:
            return True
        search = Search(self.field.survey, [self.goals[index]], None, True)
        search.solve(box)
        return search.found is None

    def is_right_path(self, path):
        """Whether any value is a path that a split can have."""
        return is_path(path, ageing=self.ageing) and path[-1] in self._calls

    def divided(self, path, branches, box):
        """For each branch the box of the parts that come to it, None for no part; None in all if one comes wrongly."""
        spread = self.field.survey.spread(path[-1])
        left = box[path] if path in box else spread.full
        boxes = []
        for answers, _ in branches:
            mask = 0
            for number in sorted(set([spread.number_of(answer) for answer in answers])):
                mask = mask | 1 << number
            coming = mask & (box[path] if path in box else spread.full)
            if coming & ~left:
                return None
            left = left & ~coming
            boxes.append({**box, path: coming} if coming else None)
        return None if left else boxes


def is_tree_for(cases, thing):
    """Whether any value is a tree of cases for demands."""
    # Trees with the box of the parts that come to them, None for no part.
    waiting = [(thing, {})]
    while waiting:
        here, box = waiting.pop()
        if is_leaf(here):
            if not cases.is_missed(here[1], box):
                return False
            continue
        if not is_split(here):
            return False
        _, path, branches = here
        if not cases.is_right_path(path):
            return False
        boxes = [None for _ in branches] if box is None else cases.divided(path, branches, box)
        if boxes is None:
            return False
        waiting.extend([(tree, inner) for (_, tree), inner in zip(branches, boxes)])
    return True


def is_tree(demands, thing, *, ageing=False):
    """Whether any value is a tree of cases for the demands."""
    expect_demands(demands)
    return len(demands) > 0 and is_tree_for(Cases(demands, ageing), thing)


def are_entries(thing, ageing):
    """Whether any value is a tuple of entries as a part has them."""
    if not isinstance(thing, tuple) or not all([is_entry(entry, ageing) for entry in thing]):
        return False
    paths = [path for path, _ in thing]
    return paths == sorted(set(paths)) and all([answer is not None for _, answer in thing])


def is_lightest(demands, entries, ageing):
    """Whether the part with these entries meets the demands, and no lighter one does."""
    part = Part(entries, ageing=ageing)
    for test, word, line in demands:
        end = run(test, part)
        if not is_demanded(word, line, (end.word, end.line)):
            return False
    field = Field([test for test, _, _ in demands], ageing)
    search = Search(field.survey, [field.goal(*demand) for demand in demands], part.weight, True)
    search.solve({})
    return search.found is None


def is_certificate(demands, thing, *, ageing=False):
    """Whether any value is a certificate for the demands."""
    expect_demands(demands)
    if not isinstance(thing, tuple) or len(thing) != 2:
        return False
    word, inner = thing
    if word == "part":
        return are_entries(inner, ageing) and is_lightest(demands, inner, ageing)
    return word == "never" and is_tree(demands, inner, ageing=ageing)

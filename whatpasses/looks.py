"""Looks: all that tests ask about the answers to one call, and by which answers they can go another way."""

from whatpasses.lenses import BEYONDS, MISUSED, Lens
from whatpasses.loops import Loop

# The columns of what a test can ask about an answer; the others have the constant, the index or the block beside it.
WHOLE = ("whole",)
LENGTH = ("len",)


def column_of(atom):
    """The column of an atom."""
    if atom.word == "len":
        return LENGTH
    if atom.word == "in":
        return ("in", atom.constant)
    return WHOLE if atom.index is None else ("at", atom.index)


def things_asked(tests, call):
    """The atoms about this call, and the `for` rows over it in pairs with the number of their test."""
    atoms = []
    loops = []
    for number, test in enumerate(tests):
        for row in test.rows:
            for literal in row.literals:
                if literal.atom.word != "on" and literal.atom.thing.call == call:
                    atoms.append(literal.atom)
            if row.word == "for" and row.thing.call == call:
                loops.append((number, row))
    return atoms, loops


class Looks:
    """What tests ask about the answers to a call that are no raised errors."""

    def __init__(self, tests, call):
        atoms, loops = things_asked(tests, call)
        sorts = {}
        for atom in atoms:
            sorts.setdefault(column_of(atom), []).append(atom)
        self.whole = Lens(sorts.get(WHOLE, []))
        self.length = Lens(sorts.get(LENGTH, []))
        self.members = [column[1] for column in sorts if column[0] == "in"]
        self.lenses = {column[1]: Lens(sorts[column]) for column in sorts if column[0] == "at"}
        self.loops = [Loop(tests[number], row) for number, row in loops]
        columns = [WHOLE, *[column for column in sorts if column == LENGTH]]
        columns.extend([("in", constant) for constant in self.members])
        columns.extend([("at", index) for index in self.lenses])
        columns.extend([("for", number, row.line) for number, row in loops])
        self.columns = {column: at for at, column in enumerate(columns)}

    def view(self, answer):
        """A tuple with an entry for each column that is equal for two answers just if they are alike."""
        if isinstance(answer, list):
            return self.view_of_list(answer, [loop.state_of(answer) for loop in self.loops])
        return (self.whole.view(answer), *[MISUSED for _ in range(len(self.columns) - 1)])

    def view_of_list(self, answer, states):
        """The same for a list behind which the loops have these states."""
        told = [self.whole.view(answer)]
        if LENGTH in self.columns:
            told.append(self.length.view(len(answer)))
        told.extend([constant in answer for constant in self.members])
        for index, lens in self.lenses.items():
            inside = -len(answer) <= index < len(answer)
            told.append(lens.view(answer[index]) if inside else BEYONDS)
        told.extend([loop.view(state) for loop, state in zip(self.loops, states)])
        return tuple(told)


class Raisings:
    """What tests tell apart about raised errors: behind `raises`, `except` and `from`."""

    def __init__(self, tests):
        rows = [row for test in tests for row in test.rows]
        self.family = tests[0].family
        self.kinds = sorted(set([row.kind for row in rows if row.kind is not None]))
        self.causes = sorted(set([row.cause for row in rows if row.cause is not None]))

    def _under(self, name, classes):
        """Which of these classes a class is under; no class is under none."""
        return tuple([name is not None and self.family.under(name, other) for other in classes])

    def view(self, answer):
        """A tuple that is equal for two raised errors just if they are alike."""
        _, kind, cause = answer
        return ("raises", self._under(kind, self.kinds), self._under(cause, self.causes))

    def least_raised(self):
        """The least raised error of each class of alike ones, ascending."""
        # A class that the family does not have is under the first class of the family alone, as this one itself is.
        kinds = self._different([*self.family.names()], self.kinds)
        causes = self._different([None, *self.family.names()], self.causes)
        return [("raises", kind, cause) for kind in kinds for cause in causes]

    def _different(self, names, classes):
        """The first of the names for each choice of these classes that one can be under."""
        firsts = {}
        for name in names:
            firsts.setdefault(self._under(name, classes), name)
        return list(firsts.values())

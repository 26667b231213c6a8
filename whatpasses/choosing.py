"""Choosing: the fewest tests of a pool that are enough to force all that is wished."""

from whatpasses.errors import OtherFamily
from whatpasses.fields import Field
from whatpasses.parting import parting
from whatpasses.runs import run
from whatpasses.suites import Suite


class Choice:
    """The least sets of tests that are enough, and parts that show that no others are."""

    def __init__(self, sets, shown):
        self.sets = sets
        self.shown = shown

    def __bool__(self):
        return bool(self.sets)

    def __len__(self):
        if not self.sets:
            return 0
        return len(self.sets[0])


def sets_of_size(many, size):
    """All sets of so many of the first numbers, ascending, as tuples."""
    sets = [()]
    for _ in range(size):
        sets = [(*own, number) for own in sets for number in range(own[-1] + 1 if own else 0, many)]
    return sets


class Chooser:
    """Says of sets of tests of a pool whether they are enough, and keeps a part for each that is not."""

    def __init__(self, base, pool, wishes, ageing):
        self.base = base.tests
        self.pool = pool.tests
        self.wishes = wishes.tests
        self.field = Field([*self.base, *self.pool, *self.wishes], ageing)
        self.shown = []
        # For each part that is shown the numbers of the tests of the pool that it passes.
        self._passed = []

    def is_enough(self, numbers):
        """Whether the tests of the pool with these numbers are enough."""
        for passed in self._passed:
            if all([number in passed for number in numbers]):
                return False
        part = parting(self.field, [*self.base, *[self.pool[number] for number in numbers]], self.wishes, True)
        if part is None:
            return True
        self.shown.append(part)
        self._passed.append([number for number, test in enumerate(self.pool) if run(test, part)])
        return False

    def least_sets(self):
        """The least sets, as tuples of numbers."""
        many = len(self.pool)
        # If the whole pool is not enough, nothing is, and one part shows it.
        if not self.is_enough(tuple(range(many))):
            return []
        size = 0
        while True:
            found = [numbers for numbers in sets_of_size(many, size) if self.is_enough(numbers)]
            if found:
                return found
            size += 1


def fewest(base, pool, wishes, *, ageing=False):
    """The choice of the fewest tests of the pool that, with the base, force all wishes."""
    if pool.family != base.family:
        raise OtherFamily(1)
    if wishes.family != base.family:
        raise OtherFamily(2)
    chooser = Chooser(base, pool, wishes, ageing)
    sets = chooser.least_sets()
    names = pool.names()
    return Choice(tuple([tuple([names[number] for number in numbers]) for numbers in sets]), tuple(chooser.shown))


def fewest_to_keep(suite, *, ageing=False):
    """The choice of the fewest tests of a suite that the same parts pass as the suite."""
    return fewest(Suite(suite.family), suite, suite, ageing=ageing)

"""Desks: suites that are changed by deeds, run by run, and changed back."""

from whatpasses.errors import BadDeed, BadSuite, NoCheck, NothingToUndo, NoTest
from whatpasses.suites import Suite


def with_other(suite, name, test):
    """The suite with this test in the place of the one with this name."""
    tests = [test if own.name == name else own for own in suite.tests]
    return Suite(suite.family, *tests)


class Deed:
    """One change of a suite; the classes below say which."""

    def done(self, suite):
        """The suite behind the deed."""
        raise NotImplementedError("the classes below do it")

    def __str__(self):
        return "deed"


class Add(Deed):
    """Puts a test behind the others."""

    def __init__(self, test):
        self.test = test

    def done(self, suite):
        """The suite behind the deed."""
        return Suite(suite.family, *suite.tests, self.test)

    def __str__(self):
        return f"add {self.test.name}"


class Drop(Deed):
    """Removes a test."""

    def __init__(self, name):
        self.name = name

    def done(self, suite):
        """The suite behind the deed."""
        dropped = suite.named(self.name)
        tests = [test for test in suite.tests if test.name != dropped.name]
        return Suite(suite.family, *tests)

    def __str__(self):
        return f"drop {self.name!s}"


class Soften(Deed):
    """Softens a check."""

    def __init__(self, name, line):
        self.name = name
        self.line = line

    def done(self, suite):
        """The suite behind the deed."""
        test = suite.named(self.name)
        return with_other(suite, test.name, test.softened(self.line))

    def __str__(self):
        return f"soften {self.name!s} {self.line!s}"


class Swap(Drop):
    """Replaces a test in its place."""

    def __init__(self, name, test):
        Drop.__init__(self, name)
        self.test = test

    def done(self, suite):
        """The suite behind the deed."""
        return with_other(suite, suite.named(self.name).name, self.test)

    def __str__(self):
        return f"swap {self.name!s} for {self.test.name}"


class Desk:
    """A suite that is changed by runs of deeds."""

    def __init__(self, suite):
        # The suite at the beginning and behind each run that is not undone.
        self._suites = [suite]

    @property
    def suite(self):
        """The suite that the desk holds now."""
        return self._suites[-1]

    @property
    def depth(self):
        """The number of runs that can be undone."""
        return len(self._suites) - 1

    def run(self, *deeds):
        """Does all deeds in order, or none."""
        suite = self.trial(*deeds)
        self._suites.append(suite)

    def trial(self, *deeds):
        """The suite that a run of these deeds would lead to."""
        suite = self.suite
        for at, deed in enumerate(deeds):
            try:
                suite = deed.done(suite)
            except (NoTest, NoCheck, BadSuite) as why:
                raise BadDeed(at) from why
        return suite

    def undo(self):
        """Undoes the last run that is not undone."""
        if len(self._suites) == 1:
            raise NothingToUndo()
        self._suites.pop()

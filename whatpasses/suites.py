"""Suites: lists of tests of one family, read and written as one text."""

from whatpasses.drafts import Draft
from whatpasses.errors import BadSuite, NoTest
from whatpasses.families import ROOT, Family, is_class_name
from whatpasses.reading import Test
from whatpasses.runs import run
from whatpasses.tokens import CannotStand, Cursor, tokens_of


def declared_pair(tokens, family):
    """The class that an `error` line declares in a family, and the class that it is under."""
    cursor = Cursor(tokens)
    cursor.expect("error")
    name = cursor.take()
    if not is_class_name(name) or name in family:
        raise CannotStand()
    parent = cursor.take_class(family) if cursor.skips("under") else ROOT
    cursor.finish()
    return (name, parent)


def read_family(lines):
    """The family that the `error` lines declare, with which the text begins, and the number of these lines."""
    family = Family.plain()
    for at, line in enumerate(lines):
        try:
            tokens = tokens_of(line)
            if tokens[:1] != ["error"]:
                return family, at
            pair = declared_pair(tokens, family)
        except CannotStand:
            raise BadSuite(at) from None
        family = family + pair
    return family, len(lines)


def read_tests(lines, first, family):
    """The tests that the lines from this one on are."""
    tests = []
    draft = Draft(family)
    for at in range(first, len(lines)):
        try:
            draft.take(lines[at])
        except CannotStand:
            raise BadSuite(at) from None
        if len(draft.rows) == 1 and draft.name in [test.name for test in tests]:
            raise BadSuite(at)
        if draft.ended:
            tests.append(Test(draft))
            draft = Draft(family)
    if draft.rows:
        raise BadSuite(len(lines))
    return tests


def written_class(pair):
    """The `error` line that declares this class."""
    name, parent = pair
    return f"error {name}" if parent == ROOT else f"error {name} under {parent}"


class Suite:
    """A family, and tests of it with different names."""

    def __init__(self, family, *tests):
        names = []
        for at, test in enumerate(tests):
            if test.family != family or test.name in names:
                raise BadSuite(at)
            names.append(test.name)
        self.family = family
        self.tests = tests

    @classmethod
    def read(cls, text):
        """The suite that a text is."""
        if not isinstance(text, str):
            raise BadSuite(-1)
        # The empty text has no lines, where splitting gives an empty one.
        lines = text.split("\n") if text != "" else []
        family, first = read_family(lines)
        tests = read_tests(lines, first, family)
        return cls(family, *tests)

    def names(self):
        """The names of the tests, in order."""
        return [test.name for test in self.tests]

    def named(self, name):
        """The test with this name."""
        for test in self.tests:
            if test.name == name:
                return test
        raise NoTest(name)

    def __getitem__(self, at):
        return self.tests[at]

    def __iter__(self):
        return iter(self.tests)

    def __len__(self):
        return len(self.tests)

    def __str__(self):
        return "\n".join([*[written_class(pair) for pair in self.family.declared], *[str(test) for test in self.tests]])

    def __eq__(self, other):
        return isinstance(other, Suite) and self.family == other.family and self.tests == other.tests

    def __contains__(self, x):
        for test in self.tests:
            if not run(test, x):
                return False
        return True

    def __and__(self, other):
        if self.family != other.family:
            raise BadSuite(-1)
        more = []
        for at, test in enumerate(other.tests):
            if test in self.tests:
                continue
            if test.name in self.names():
                raise BadSuite(at)
            more.append(test)
        return Suite(self.family, *self.tests, *more)

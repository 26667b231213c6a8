"""Checks: whether the lines of a suite that can fail are needed."""

from whatpasses.fields import Field
from whatpasses.finding import find
from whatpasses.parting import parting


class Check:
    """What a check of a suite is good for, with a part as an example."""

    def __init__(self, name, line, word, example):
        self.name = name
        self.line = line
        self.word = word
        self.example = example

    def __bool__(self):
        return bool(self.word == "needed")


def told_apart(suite, test, other, ageing):
    """The lightest part that passes the suite either as it is or with another test in place of one, or None."""
    rest = [own for own in suite.tests if own.name != test.name]
    field = Field([*rest, test, other], ageing)
    strict = parting(field, [*rest, test], [other], False)
    loose = parting(field, [*rest, other], [test], False)
    if strict is None or loose is None:
        return loose if strict is None else strict
    return strict if strict.weight <= loose.weight else loose


def check(suite, name, line, *, ageing=False):
    """What is said of the check in this line of the test with this name."""
    test = suite.named(name)
    # A test that skips at the line, at once or where the check bites, shows which parts come there.
    reached = find([(test.stopped(line), "skips", line)], ageing=ageing)
    if not reached:
        return Check(name, line, "dead", None)
    bitten = find([(test.biting(line), "skips", line)], ageing=ageing)
    if not bitten:
        return Check(name, line, "true", reached.part)
    example = told_apart(suite, test, test.softened(line), ageing)
    if example is None:
        return Check(name, line, "idle", bitten.part)
    return Check(name, line, "needed", example)


def all_checks(suite, *, ageing=False):
    """What is said of each check of the suite, test by test."""
    return [check(suite, test.name, line, ageing=ageing) for test in suite.tests for line in test.checks()]


def listing(suite, *, ageing=False):
    """A line for each check of the suite: name, line, word and the weight of the example."""
    lines = []
    for own in all_checks(suite, ageing=ageing):
        weight = "-" if own.example is None else str(own.example.weight)
        lines.append(f"{own.name:<12}{own.line:>4} {own.word:<6}{weight:>5}")
    return lines

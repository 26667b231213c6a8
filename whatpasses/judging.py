"""Judging: whether a suite forces a test, and which wrong parts there are if it does not."""

from whatpasses.errors import OtherFamily
from whatpasses.finding import find
from whatpasses.ranking import ranked


def judge(suite, test, *, ageing=False):
    """The verdict on parts that pass the suite and do not pass the test."""
    if test.family != suite.family:
        raise OtherFamily(len(suite))
    return find([*[(own, "passes", None) for own in suite.tests], (test, "not passes", None)], ageing=ageing)


def forces(suite, test, *, ageing=False):
    """Whether each part that passes the suite passes the test."""
    return not judge(suite, test, ageing=ageing)


def wrong_parts(suite, test, *, ageing=False, limit=None):
    """The lightest part of each way in which parts pass the suite and not the test, in the order of `ways`."""
    tests = [*suite.tests, test]
    words = [*[("passes",) for _ in suite.tests], ("fails", "skips")]
    many = 0
    if limit == 0:
        return
    for _, part in ranked(tests, ageing, words):
        yield part
        many += 1
        if many == limit:
            return

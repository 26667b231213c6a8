"""Finding: a part for which tests end as demanded, or a tree of cases that shows that there is none."""

from whatpasses.errors import BadDemand, OtherFamily
from whatpasses.fields import Field
from whatpasses.kinds import is_integer
from whatpasses.ranking import lightest_in, ranked
from whatpasses.reading import Test
from whatpasses.searching import Search
from whatpasses.writing import tree_of

DEMAND_WORDS = ("passes", "fails", "skips", "not passes")


def is_demand(thing):
    """Whether any value is a demand."""
    if not isinstance(thing, tuple) or len(thing) != 3:
        return False
    test, word, line = thing
    return isinstance(test, Test) and word in DEMAND_WORDS and (line is None or is_integer(line))


def expect_demands(demands):
    """Refuses what are no demands, or are demands of different families."""
    for at, demand in enumerate(demands):
        if not is_demand(demand):
            raise BadDemand(at)
    for at, (test, _, _) in enumerate(demands):
        if test.family != demands[0][0].family:
            raise OtherFamily(at)


class Verdict:
    """What `find` says: a part, or that there is none."""

    def __init__(self, certificate, part):
        self.certificate = certificate
        self._part = part
        self._weight = None if part is None else part.weight

    def __bool__(self):
        return self._part is not None

    @property
    def part(self):
        """The part of the certificate, or None."""
        return self._part

    @property
    def weight(self):
        """The weight of the part, or None."""
        return self._weight


def find(demands, *, ageing=False):
    """The verdict on these demands."""
    expect_demands(demands)
    field = Field([test for test, _, _ in demands], ageing)
    search = Search(field.survey, [field.goal(*demand) for demand in demands], None, False)
    proof = search.solve({})
    if search.found is None:
        return Verdict(("never", tree_of(field.survey, proof)), None)
    part = lightest_in(field.survey, search.found, ageing)
    return Verdict(("part", part.entries), part)


def ways(tests, *, ageing=False):
    """Each possible way of the tests with the lightest part that takes it, the lightest parts first."""
    yield from ranked(tests, ageing, None)

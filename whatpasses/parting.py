"""Parting: parts that pass some tests and not all of others."""

from whatpasses.ranking import lightest_in
from whatpasses.searching import Search


def parting(field, tests, others, quick):
    """The lightest part that passes these tests and not all of the others, or None; any such part if it is quick."""
    passing = [field.goal(test, "passes", None) for test in tests]
    box = None
    bound = None
    for other in others:
        search = Search(field.survey, [*passing, field.goal(other, "not passes", None)], bound, quick)
        search.solve({})
        if search.found is not None:
            # From here on only lighter parts are of use.
            box = search.found
            bound = search.bound
            if quick:
                break
    return None if box is None else lightest_in(field.survey, box, field.ageing)

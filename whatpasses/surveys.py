"""Surveys: which answers no test of a list can tell apart."""

from whatpasses.errors import NoCall, OtherFamily
from whatpasses.looks import Looks, Raisings
from whatpasses.spreads import Spread


def distinct(tests):
    """The tests without those that are equal to an earlier one."""
    found = []
    for test in tests:
        if test not in found:
            found.append(test)
    return found


class Survey:
    """What a list of tests asks about the answers to each call."""

    def __init__(self, tests):
        for at, test in enumerate(tests):
            if test.family != tests[0].family:
                raise OtherFamily(at)
        self.tests = distinct(tests)
        self._mentions = sorted(set([call for test in self.tests for call in test.calls()]))
        self._looks = {}
        self._spreads = {}

    def calls(self):
        """The call texts that the tests mention, ascending."""
        return list(self._mentions)

    def answers(self, call):
        """The least answers for this call text, ascending."""
        self._expect(call)
        spread = self.spread(call)
        return [spread.answer_at(number) for number in range(len(spread.leasts))]

    def least(self, call, answer):
        """The least answer that is alike to this one."""
        self._expect(call)
        spread = self.spread(call)
        return spread.answer_at(spread.number_of(answer))

    def alike(self, call, one, other):
        """Whether two answers are alike for this call text."""
        self._expect(call)
        if isinstance(one, tuple) != isinstance(other, tuple):
            return False
        if isinstance(one, tuple):
            raisings = Raisings(self.tests)
            return raisings.view(one) == raisings.view(other)
        looks = self._look(call)
        return looks.view(one) == looks.view(other)

    def _expect(self, call):
        """Refuses a call text that no test mentions."""
        if call not in self._mentions:
            raise NoCall(call)

    def _look(self, call):
        """What the tests ask about the answers to this call."""
        if call not in self._looks:
            self._looks[call] = Looks(self.tests, call)
        return self._looks[call]

    def spread(self, call):
        """The least answers for this call text by their numbers."""
        if call not in self._spreads:
            self._spreads[call] = Spread(self._look(call), Raisings(self.tests))
        return self._spreads[call]

    def heaviness_of(self, box):
        """The least weight of a part in a box: a dict from paths to sets of the answers that are allowed."""
        return sum([self.spread(path[-1]).weight_of(mask) for path, mask in box.items()])

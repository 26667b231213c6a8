"""Fields: the tests that one question is about, with the charts and goals by which it is decided."""

from whatpasses.charts import Chart
from whatpasses.goals import EndGoal, WayGoal
from whatpasses.outlooks import prospects_of
from whatpasses.surveys import Survey


class Field:
    """The survey and the charts of some tests, for steady or for ageing parts; equal tests have the same charts."""

    def __init__(self, tests, ageing):
        self.survey = Survey(tests)
        self.ageing = ageing
        many = len(self.survey.tests)
        self._charts = [None for _ in range(many)]
        self._row_charts = [None for _ in range(many)]
        self._prospects = [None for _ in range(many)]

    def _place(self, test):
        """The number of a test; its prospects and its chart are there then."""
        at = self.survey.tests.index(test)
        if self._charts[at] is None:
            steady = Chart(self.survey, test, False, False)
            self._prospects[at] = prospects_of(steady)
            self._charts[at] = Chart(self.survey, test, True, False) if self.ageing else steady
        return at

    def chart_of_rows(self, test):
        """The chart of a test that tells apart by which rows a node is reached."""
        at = self.survey.tests.index(test)
        if self._row_charts[at] is None:
            self._row_charts[at] = Chart(self.survey, test, self.ageing, True)
        return self._row_charts[at]

    def goal(self, test, word, line):
        """The goal that a demand sets."""
        at = self._place(test)
        return EndGoal(self._charts[at], self._prospects[at], word, line)

    def way_goal(self, test, words, rows, barred):
        """The goal that a test ends with one of the words, by these rows if there are any, and in no barred way."""
        at = self._place(test)
        return WayGoal(self.chart_of_rows(test), self._prospects[at], words, rows, barred)

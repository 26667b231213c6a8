"""Tests: read from a text, asked for what they mention, and with one check changed."""

from whatpasses.drafts import CHECK_WORDS, TUPLE, Draft
from whatpasses.errors import BadTest, NoCheck
from whatpasses.kinds import is_integer
from whatpasses.tokens import CannotStand


class Test:
    """A small program that calls a part and checks its answers."""

    def __init__(self, draft):
        self.name = draft.name
        self.family = draft.family
        self.flags = tuple(sorted(draft.flags))
        self.rows = tuple(draft.rows)
        self._lines = tuple(draft.lines)
        self._mentions = tuple(draft.mentions)

    @classmethod
    def read(cls, text, family):
        """The test that a text is, with the classes of this family."""
        if not isinstance(text, str):
            raise BadTest(-1)
        draft = Draft(family)
        for at, line in enumerate(text.split("\n")):
            try:
                draft.take(line)
            except CannotStand:
                raise BadTest(at) from None
        if not draft.ended:
            raise BadTest(len(draft.rows))
        return cls(draft)

    def calls(self):
        """The call texts that the test mentions, ascending."""
        return sorted(set(self._mentions))

    def checks(self):
        """The lines of the checks, ascending."""
        return [row.line for row in self.rows if row.word in CHECK_WORDS]

    def softened(self, line):
        """The test with this check in a form that is never false."""
        word = self._check_word(line)
        if word == TUPLE:
            return self
        return self._changed(line, "pass" if word == "fail" else "assert (" + self._condition(line) + ", \"\")")

    def stopped(self, line):
        """The test with `skip` in the place of this check."""
        self._check_word(line)
        return self._changed(line, "skip")

    def biting(self, line):
        """The test that skips where this check bites."""
        word = self._check_word(line)
        if word == TUPLE:
            return self
        return self._changed(line, "skip" if word == "fail" else "assume " + self._condition(line))

    def _check_word(self, line):
        """The word of the check at this line."""
        if not is_integer(line) or line not in self.checks():
            raise NoCheck(line)
        return self.rows[line].word

    def _condition(self, line):
        """The condition of the `assert` at this line, as it is written."""
        return self._lines[line].partition("assert ")[2]

    def _changed(self, line, text):
        """The test with another row in this line."""
        lines = list(self._lines)
        lines[line] = text
        return Test.read("\n".join(lines), self.family)

    def __getitem__(self, at):
        return self._lines[at]

    def __iter__(self):
        raise TypeError("a test is not iterated over")

    def __len__(self):
        return len(self._lines)

    def __str__(self):
        return "\n".join(self._lines)

    def __eq__(self, other):
        return isinstance(other, Test) and self.family == other.family and self._lines == other._lines

"""Runs: how a test ends on a given part."""

from whatpasses.courses import begun, further
from whatpasses.moves import reply


class End:
    """How a run ended, and what was executed and called in it."""

    def __init__(self, word, line, kind, cause, rows, paths):
        self.word = word
        self.line = line
        self.kind = kind
        self.cause = cause
        self.rows = rows
        self.paths = paths

    def __bool__(self):
        return bool(self.word == "passes")

    def __eq__(self, other):
        return (
            isinstance(other, End) and self.word == other.word and self.line == other.line and self.kind == other.kind
            and self.cause == other.cause and self.rows == other.rows and self.paths == other.paths
        )


def paths_of(made, ageing):
    """The paths of these calls, made one behind the other on a steady or an ageing part."""
    return tuple([made[:at + 1] if ageing else (text,) for at, text in enumerate(made)])


def run(test, part):
    """Executes the test on the part."""
    answers = []
    spot = begun(test)
    while spot.way is None:
        if spot.number == len(answers):
            made = spot.made
            answers.append(part.answer(*made))
        learned = reply(test.family, spot.row, spot.step, spot.flags, answers[spot.number])
        spot = further(test, spot, learned)
    word, line, kind, cause = spot.way
    return End(word, line, kind, cause, spot.rows, paths_of(spot.made, part.ageing))


def trace(test, part):
    """The rows of the run on the part, each with its line in the written form."""
    for line in run(test, part).rows:
        yield line, test[line]

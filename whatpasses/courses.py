"""The course of a test: from one question about the answer to a call to the next, up to the end of the test."""

from whatpasses.conditions import TRUE, chosen, past_flags
from whatpasses.moves import failure, landed, moved, switched

# The rows that do not count as executed.
SILENT_WORDS = ("else", "end")


class Spot:
    """Where a test stands: at a question about the answer to a call, or at its end. Later spots are new ones.

    At a question, `row` and `step` (of its condition) tell what asks, and `number` which of the calls that are `made`
    it asks about: the last one has just been made if no earlier spot asked about it. At the end `way` is how the test
    ends, before that None. `flags` are those that are on, ascending; `lets` has the number of the call for the name of
    each `let` line that was executed; `rows` are the lines that were executed.
    """

    def __init__(self, row, step, number, flags, lets, made, rows, way):
        self.row = row
        self.step = step
        self.number = number
        self.flags = flags
        self.lets = lets
        self.made = made
        self.rows = rows
        self.way = way


def asking(row, step, flags, lets, made, rows):
    """The spot at which a row asks, at this step of its condition if it has one."""
    thing = row.literals[step].atom.thing if row.literals else row.thing
    if thing.name is not None:
        return Spot(row, step, lets[thing.name], flags, lets, made, rows, None)
    return Spot(row, step, len(made), flags, lets, (*made, thing.call), rows, None)


def entered(test, row, flags, lets, made, rows):
    """The next spot if this row is executed now."""
    here = row
    way = None
    on = flags
    executed = list(rows)
    while here is not None:
        if here.word not in SILENT_WORDS:
            executed.append(here.line)
        step = past_flags(here.literals, 0, on) if here.literals else TRUE
        if step >= 0 or here.thing is not None:
            return asking(here, step, on, lets, made, tuple(executed))
        on = switched(here, on)
        here, way = moved(test.family, here, step == TRUE)
    return Spot(None, TRUE, None, on, lets, made, tuple(executed), way)


def begun(test):
    """The first spot of a test."""
    return entered(test, test.rows[0].behind, (), {}, (), ())


def further(test, spot, learned):
    """The spot behind a question; learned is the reply to it (see `reply`)."""
    row = spot.row
    flags = spot.flags
    lets = spot.lets
    if isinstance(learned, tuple) and learned[0] == "raises":
        _, kind, cause = learned
        target, way = landed(test.family, row, failure(row, kind, cause))
    elif row.word == "for":
        way, flags = learned
        target, way = (row.end.behind, None) if way is None else landed(test.family, row, way)
    elif isinstance(learned, bool):
        step = past_flags(row.literals, chosen(row.literals[spot.step], learned), flags)
        if step >= 0:
            return asking(row, step, flags, lets, spot.made, spot.rows)
        target, way = moved(test.family, row, step == TRUE)
    else:
        if row.word == "let":
            lets = {**lets, row.name: spot.number}
        target, way = moved(test.family, row, True if learned is None else learned)
    if target is None:
        return Spot(None, TRUE, None, flags, lets, spot.made, spot.rows, way)
    return entered(test, target, flags, lets, spot.made, spot.rows)

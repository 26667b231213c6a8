"""What a row does: where the test goes on from it, or in which way it leaves the rows around it.

A way is a tuple (word, line, kind, cause). Its word is "passes", "fails", "skips", "breaks" or "continues"; the line is
that of an error or a skip; kind and cause are the classes of an error. A `return` is the way of a test that passes.
"""

from whatpasses.conditions import MISUSE, outcome, truth

FAILED = "Failed"
PASSES = ("passes", None, None, None)
BREAKS = ("breaks", None, None, None)
CONTINUES = ("continues", None, None, None)


def failure(row, kind, cause=None):
    """The way of an error that is raised at the line of this row."""
    return ("fails", row.line, kind, cause)


def way_out(row, holds):
    """The way in which a row leaves the rows around it, or None; holds is the truth of its condition."""
    word = row.word
    if word == "fail" or (word == "assert" and not holds):
        return failure(row, FAILED)
    if word == "skip" or (word == "assume" and not holds):
        return ("skips", row.line, None, None)
    if word == "break":
        return BREAKS
    if word == "continue":
        return CONTINUES
    if word == "return" or (word == "end" and row.block.word == "test"):
        return PASSES
    if word == "end" and row.block.word == "raises":
        return failure(row.block, FAILED)
    return None


def switched(row, flags):
    """The flags that are on behind a row, ascending."""
    if row.word == "set" and row.name not in flags:
        return tuple(sorted([*flags, row.name]))
    if row.word == "clear":
        return tuple([flag for flag in flags if flag != row.name])
    return flags


def kept(family, guard, way):
    """What becomes of a way that leaves the rows of a `raises` block: None if it is taken, or the way behind it."""
    word, _, kind, cause = way
    if word == "skips":
        return way
    if word != "fails":
        return failure(guard, FAILED)
    if not family.under(kind, guard.kind):
        return way
    if guard.cause is None or (cause is not None and family.under(cause, guard.cause)):
        return None
    return failure(guard, FAILED)


def branch_for(family, guard, way):
    """The `except` row of a `try` block that takes a way, or None."""
    word, _, kind, _ = way
    if word == "fails":
        for branch in guard.branches:
            if family.under(kind, branch.kind):
                return branch
    return None


def landed(family, row, way):
    """The row at which the test goes on if a block takes the way out of this row, or None; and the way left then."""
    left = way
    for guard in row.guards:
        if guard.word == "raises":
            left = kept(family, guard, left)
            if left is None:
                return guard.end.behind, None
        else:
            branch = branch_for(family, guard, left)
            if branch is not None:
                return branch, None
    return None, left


def moved(family, row, holds):
    """The row that is executed behind this one, or None and the way in which all rows are left.

    holds is the truth of the row's condition, or the class of the error that evaluating it raises.
    """
    way = failure(row, holds) if isinstance(holds, str) else way_out(row, holds)
    if way is not None:
        return landed(family, row, way)
    if row.word == "if" and not holds:
        return row.other, None
    return row.behind, None


def item_way(family, loop, item, flags):
    """The way in which the rows of a `for` block are left for one item, None at their end; and the flags then."""
    row = loop.behind
    way = None
    while row is not None and row != loop.end:
        holds = truth(row.literals, item, flags) if row.literals else True
        flags = switched(row, flags)
        row, way = moved(family, row, holds)
    return way, flags


def looped(family, loop, value, flags):
    """The way in which a `for` block over this value is left, None at its end; and the flags then."""
    if not isinstance(value, list):
        return failure(loop, MISUSE), flags
    for item in value:
        way, flags = item_way(family, loop, item, flags)
        if way == BREAKS:
            break
        if way is not None and way != CONTINUES:
            return way, flags
    return None, flags


def reply(family, row, step, flags, answer):
    """What a row learns from the answer to a call, begun with these flags that are on.

    This is the answer itself if it is a raised error. Otherwise it is the way and the flags behind a `for` block, the
    outcome of the atom at this step of the row's condition, or None.
    """
    if isinstance(answer, tuple):
        return answer
    if row.word == "for":
        return looped(family, row, answer, flags)
    if row.literals:
        return outcome(row.literals[step].atom, answer)
    return None

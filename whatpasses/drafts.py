"""Tests while they are read: which line can stand where, and how the lines hang together."""

from whatpasses.conditions import Scope, take_called, take_condition, take_string, take_thing
from whatpasses.tokens import CannotStand, Cursor, tokens_of, written

MOST_LINES = 40
MOST_DEPTH = 6
MOST_FLAGS = 3
BARE_WORDS = ("pass", "fail", "return", "skip", "break", "continue")
BLOCK_WORDS = ("raises", "if", "try", "for")
# The word of a row `assert (condition, string)`, which is never false.
TUPLE = "tuple"
CHECK_WORDS = ("assert", "tuple", "fail")


class Row:
    """One line of a test: what it says, and the rows at which the test goes on from it.

    A row of any word has the row `behind` it, and `guards`: the blocks around it that may take what leaves it, the
    innermost one first, up to the next `for` block. The first row of a block has its `end`; `other` is its `else`, or
    its end if it has none. The rows `else`, `except` and `end` have the first row of their `block`; rows that come to
    their end before an `else` or `except` go on at the row that it has as `passed`.
    """

    def __init__(self, line, word, guards):
        self.line = line
        self.word = word
        self.guards = guards
        self.name = None
        self.thing = None
        self.literals = []
        self.kind = None
        self.cause = None
        self.behind = None
        self.block = None
        self.branches = []
        self.end = None
        self.other = None
        self.passed = None


class Block:
    """A block that is not closed yet; the test itself is the outermost one."""

    def __init__(self, row, guards):
        self.row = row
        self.guards = guards
        # The word of the line that the present rows stand behind.
        self.latest = row.word
        # The names that the present rows have given, each with the call text that it stands for.
        self.lets = {}
        self.marks = []

    def admits(self, word):
        """Whether an `else`, `except` or `end` can stand behind the present rows."""
        if self.row.word == "try":
            if word == "except":
                return self.latest != "else"
            return self.latest == "except" or (word == "end" and self.latest == "else")
        return word == "end" or (word == "else" and self.latest == "if")

    def turn(self, mark):
        """Begins the rows behind an `else` or `except`."""
        self.marks.append(mark)
        self.latest = mark.word
        self.lets = {}
        self.guards = self.row.guards

    def close(self, end):
        """Ties the first row of the block, its marks and its end together."""
        row = self.row
        row.end = end
        row.other = end
        for mark in self.marks:
            mark.passed = end
            if mark.word == "else":
                row.other = mark
        if row.word == "try":
            # Only the first rows come to their end before the first `except`, and only they lead to the `else`.
            self.marks[0].passed = row.other
            row.branches = [mark for mark in self.marks if mark.word == "except"]


class Draft:
    """A test as far as it is read. If a line is refused, the draft is of no further use."""

    def __init__(self, family):
        self.family = family
        self.name = ""
        self.rows = []
        self.lines = []
        self.flags = []
        self.mentions = []
        self.ended = False
        self._blocks = []

    def take(self, text):
        """Reads the next line, or raises CannotStand."""
        if self.ended or len(self.rows) == MOST_LINES:
            raise CannotStand()
        tokens = tokens_of(text)
        cursor = Cursor(tokens)
        word = cursor.take()
        if not self._blocks:
            depth = 0
            row = self._begun(cursor, word)
        elif word in ("else", "except", "end"):
            depth = len(self._blocks) - 1
            row = self._turned(cursor, word)
        else:
            depth = len(self._blocks)
            row = self._read(cursor, word)
        cursor.finish()
        self._mention(row)
        self.rows.append(row)
        self.lines.append("  " * depth + written(tokens))
        if not self._blocks:
            self._finish()

    def _begun(self, cursor, word):
        """The first line of the test."""
        if word != "test":
            raise CannotStand()
        self.name = cursor.take_name()
        row = Row(0, word, ())
        self._blocks.append(Block(row, ()))
        return row

    def _turned(self, cursor, word):
        """A line that ends rows of the innermost block."""
        block = self._blocks[-1]
        if not block.admits(word):
            raise CannotStand()
        row = Row(len(self.rows), word, block.row.guards)
        row.block = block.row
        if word == "except":
            row.kind = cursor.take_class(self.family)
        if word == "end":
            block.close(row)
            self._blocks.pop()
        else:
            block.turn(row)
        return row

    def _read(self, cursor, word):
        """A line that is a row or begins one."""
        row = Row(len(self.rows), word, self._blocks[-1].guards)
        scope = self._scope()
        if word in BLOCK_WORDS:
            self._read_block(cursor, row, scope)
        elif word in ("call", "let"):
            self._read_call(cursor, row, scope)
        elif word in ("set", "clear"):
            row.name = cursor.take_name()
        elif word == "assert" and cursor.skips("("):
            row.word = TUPLE
            row.literals = take_condition(cursor, scope)
            cursor.expect(",")
            take_string(cursor)
            cursor.expect(")")
        elif word in ("assert", "assume"):
            row.literals = take_condition(cursor, scope)
        elif word not in BARE_WORDS or (word in ("break", "continue") and scope.item is None):
            raise CannotStand()
        return row

    def _read_call(self, cursor, row, scope):
        """What stands behind `call` or `let`."""
        if row.word == "let":
            row.name = self._take_new_name(cursor, scope)
            cursor.expect("=")
        row.thing = take_called(cursor, scope)
        if row.word == "let":
            self._blocks[-1].lets[row.name] = row.thing.call

    def _read_block(self, cursor, row, scope):
        """What stands behind the word that begins a block."""
        if len(self._blocks) > MOST_DEPTH:
            raise CannotStand()
        guards = row.guards
        if row.word == "raises":
            row.kind = cursor.take_class(self.family)
            if cursor.skips("from"):
                row.cause = cursor.take_class(self.family)
        elif row.word == "if":
            row.literals = take_condition(cursor, scope)
        elif row.word == "for":
            row.name = self._take_new_name(cursor, scope)
            cursor.expect("in")
            row.thing = take_thing(cursor, scope)
        if row.word in ("raises", "try"):
            guards = (row, *guards)
        elif row.word == "for":
            # What leaves the rows for an item leaves the whole block, or goes on with the next item.
            guards = ()
        self._blocks.append(Block(row, guards))

    def _take_new_name(self, cursor, scope):
        """Takes a name that is not visible."""
        name = cursor.take_name()
        if name in scope.lets:
            raise CannotStand()
        return name

    def _scope(self):
        """What the next line sees."""
        lets = {}
        item = None
        for block in self._blocks:
            for name, call in block.lets.items():
                lets[name] = call
            if block.row.word == "for":
                item = block.row.name
        return Scope(lets, item)

    def _mention(self, row):
        """Notes the flags and the calls that a row mentions."""
        atoms = [literal.atom for literal in row.literals]
        flags = [atom.constant for atom in atoms if atom.word == "on"]
        if row.word in ("set", "clear"):
            flags.append(row.name)
        for flag in flags:
            if flag not in self.flags:
                self.flags.append(flag)
        if len(self.flags) > MOST_FLAGS:
            raise CannotStand()
        things = [atom.thing for atom in atoms if atom.word != "on"]
        if row.thing is not None:
            things.append(row.thing)
        for thing in things:
            if thing.call is not None:
                self.mentions.append(thing.call)

    def _finish(self):
        """Leads each row to the one that is executed behind it."""
        self.ended = True
        for row, later in zip(self.rows, self.rows[1:]):
            row.behind = later.passed if later.word in ("else", "except") else later

"""The tokens of a line: how they are told apart, taken one by one, and written."""

from whatpasses.calls import MOST_CONSTANTS, call_text, is_constant_text, is_name
from whatpasses.kinds import DIGITS, SMALL_LETTERS

LETTERS = "abcdefghijklmnopqrstuvwxyzABCDEFGHIJKLMNOPQRSTUVWXYZ"
LONG_SIGNS = ("==", "!=", "<=", ">=")
SHORT_SIGNS = ("(", ")", "[", "]", ",", "=", "<", ">")


class CannotStand(Exception):
    """A line cannot stand at its place."""


def run_end(line, start, characters):
    """The index behind the longest sequence of these characters that begins at this index."""
    at = start
    while at < len(line) and line[at] in characters:
        at += 1
    return at


def token_end(line, at):
    """The index behind the token that begins at this index."""
    first = line[at]
    if first in LETTERS:
        return run_end(line, at, LETTERS)
    if first == "-" or first in DIGITS:
        end = run_end(line, at + 1, DIGITS)
        if line[at:end] == "-":
            raise CannotStand()
        return end
    if first == "\"":
        end = run_end(line, at + 1, SMALL_LETTERS)
        if line[end:end + 1] != "\"":
            raise CannotStand()
        return end + 1
    if line[at:at + 2] in LONG_SIGNS:
        return at + 2
    if first not in SHORT_SIGNS:
        raise CannotStand()
    return at + 1


def tokens_of(line):
    """The tokens of a line, in order."""
    tokens = []
    at = 0
    while at < len(line):
        if line[at] == " ":
            at += 1
        else:
            end = token_end(line, at)
            tokens.append(line[at:end])
            at = end
    return tokens


def stand_apart(left, right):
    """Whether a space stands between two tokens in the written form."""
    if left in ("(", "[") or right in (")", "]", ","):
        return False
    if right == "(":
        # Only the one that holds a condition and a string is not that of a call or of `len`.
        return left == "assert"
    return right != "[" or left in ("==", "!=")


def written(tokens):
    """The tokens of a line that can stand, in the written form, without the spaces at its beginning."""
    pieces = []
    for at, token in enumerate(tokens):
        if at > 0 and stand_apart(tokens[at - 1], token):
            pieces.append(" ")
        pieces.append(token)
    return "".join(pieces)


def constant_of(text):
    """The value of a constant as it stands in a test."""
    if text == "none":
        return None
    return text[1:-1] if text.startswith("\"") else int(text)


class Cursor:
    """Takes the tokens of a line from left to right; each method raises CannotStand where another token comes."""

    def __init__(self, tokens):
        self.tokens = tokens
        self.at = 0

    def peek(self, ahead=0):
        """The token that comes next, or so many behind it; the empty string behind the last one."""
        at = self.at + ahead
        return self.tokens[at] if at < len(self.tokens) else ""

    def take(self):
        """Takes the next token, whatever it is."""
        token = self.peek()
        self.at += 1
        return token

    def skips(self, token):
        """Whether this token comes next; if so, it is taken."""
        if self.peek() != token:
            return False
        self.at += 1
        return True

    def expect(self, token):
        """Takes this token."""
        if self.take() != token:
            raise CannotStand()

    def finish(self):
        """Asks that no token is left."""
        if self.at < len(self.tokens):
            raise CannotStand()

    def take_one_of(self, tokens):
        """Takes one of these tokens."""
        token = self.take()
        if token not in tokens:
            raise CannotStand()
        return token

    def take_name(self):
        """Takes a name."""
        token = self.take()
        if not is_name(token):
            raise CannotStand()
        return token

    def take_class(self, family):
        """Takes a class of the family."""
        token = self.take()
        if token not in family:
            raise CannotStand()
        return token

    def take_constant(self):
        """Takes a constant and returns its value."""
        token = self.take()
        if not is_constant_text(token):
            raise CannotStand()
        return constant_of(token)

    def take_constants(self, closing, most):
        """Takes at most so many constants with commas between them, and the closing sign; returns their values."""
        constants = []
        if self.skips(closing):
            return constants
        constants.append(self.take_constant())
        while self.skips(","):
            constants.append(self.take_constant())
        self.expect(closing)
        if len(constants) > most:
            raise CannotStand()
        return constants

    def take_call(self):
        """Takes a call and returns its call text."""
        name = self.take_name()
        self.expect("(")
        constants = self.take_constants(")", MOST_CONSTANTS)
        return call_text(name, *constants)

"""Calls as texts, and the paths that calls make."""

from whatpasses.errors import BadCall
from whatpasses.kinds import DIGITS, consists_of, is_integer, is_small_word

KEYWORDS = (
    "and", "assert", "assume", "break", "call", "clear", "continue", "else", "end", "error", "except", "fail", "for",
    "from", "if", "in", "is", "len", "let", "list", "none", "not", "number", "on", "or", "pass", "raises", "return",
    "set", "skip", "test", "try", "under", "word",
)
MOST_NAME_LETTERS = 12
MOST_STRING_LETTERS = 8
MOST_DIGITS = 30
MOST_CONSTANTS = 3


def is_name(thing):
    """Whether any value is a name: one to twelve letters a to z that are no keyword."""
    return is_small_word(thing, MOST_NAME_LETTERS) and thing != "" and thing not in KEYWORDS


def is_number_text(text):
    """Whether a text is a number as it stands in a test."""
    digits = text[1:] if text.startswith("-") else text
    if digits == "" or len(digits) > MOST_DIGITS or not consists_of(digits, DIGITS):
        return False
    return text == "0" or digits[0] != "0"


def is_string_text(text):
    """Whether a text is a string with its quotes as it stands in a test."""
    if len(text) < 2 or text[0] != "\"" or text[-1] != "\"":
        return False
    return is_small_word(text[1:-1], MOST_STRING_LETTERS)


def is_constant_text(text):
    """Whether a text is a constant as it stands in a test."""
    return text == "none" or is_number_text(text) or is_string_text(text)


def can_be_constant(thing):
    """Whether any value can be written as a constant."""
    if is_integer(thing):
        # The size is asked of the integer itself: Python refuses to write out much longer ones.
        return abs(thing) < 10 ** 30
    return thing is None or is_small_word(thing, MOST_STRING_LETTERS)


def constant_text(constant):
    """A value that can be written as a constant, written as one."""
    if constant is None:
        return "none"
    if isinstance(constant, str):
        return "\"" + constant + "\""
    return str(constant)


def call_text(name, *values):
    """The call text of the call of this name with these constants."""
    if not is_name(name):
        raise BadCall(-1)
    for at, value in enumerate(values):
        if at == MOST_CONSTANTS or not can_be_constant(value):
            raise BadCall(at)
    return name + "(" + ", ".join([constant_text(value) for value in values]) + ")"


def is_call(thing):
    """Whether any value is a call text."""
    if not isinstance(thing, str) or not thing.endswith(")"):
        return False
    name, opening, inner = thing[:-1].partition("(")
    if opening == "" or not is_name(name):
        return False
    constants = [] if inner == "" else inner.split(", ")
    return len(constants) <= MOST_CONSTANTS and all([is_constant_text(text) for text in constants])


def is_path(thing, *, ageing=False):
    """Whether any value is a path of a call that is made on a steady or an ageing part."""
    if not isinstance(thing, tuple) or len(thing) == 0:
        return False
    return (ageing or len(thing) == 1) and all([is_call(text) for text in thing])

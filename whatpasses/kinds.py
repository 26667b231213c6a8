"""Questions about the kind of any value that several modules ask."""

SMALL_LETTERS = "abcdefghijklmnopqrstuvwxyz"
CAPITAL_LETTERS = "ABCDEFGHIJKLMNOPQRSTUVWXYZ"
DIGITS = "0123456789"


def consists_of(text, characters):
    """Whether each character of the text is one of these."""
    return all([character in characters for character in text])


def is_integer(thing):
    """Whether any value is an integer, which True and False are not."""
    return isinstance(thing, int) and not isinstance(thing, bool)


def is_small_word(thing, most):
    """Whether any value is a string of letters a to z, at most so many and perhaps none."""
    return isinstance(thing, str) and len(thing) <= most and consists_of(thing, SMALL_LETTERS)

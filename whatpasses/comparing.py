"""Comparing: which of two suites is stricter."""

from whatpasses.errors import OtherFamily
from whatpasses.fields import Field
from whatpasses.parting import parting


class Comparison:
    """How two suites stand to each other, with the lightest parts that pass only one of them."""

    def __init__(self, word, only_one, only_other):
        self.word = word
        self.only_one = only_one
        self.only_other = only_other

    def __bool__(self):
        return bool(self.word == "equal")


def word_for(only_one, only_other):
    """How a suite stands to another one, by whether there are parts that pass only the one or only the other."""
    if only_one is None:
        return "equal" if only_other is None else "stricter"
    return "looser" if only_other is None else "apart"


def compare(one, other, *, ageing=False):
    """How the suite one stands to the suite other."""
    if one.family != other.family:
        raise OtherFamily(-1)
    field = Field([*one.tests, *other.tests], ageing)
    only_one = parting(field, one.tests, other.tests, False)
    only_other = parting(field, other.tests, one.tests, False)
    return Comparison(word_for(only_one, only_other), only_one, only_other)

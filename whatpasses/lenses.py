"""Lenses: what some atoms tell apart about one value, and the least items that show all of it."""

from whatpasses.answers import item_key
from whatpasses.conditions import EQUAL_SIGNS, MISUSE, is_of_kind
from whatpasses.kinds import SMALL_LETTERS, is_integer

# What is shown of a value for which all atoms of a lens raise the same error. A lens of order signs alone shows the
# first one, too, of a value that is no integer.
MISUSED = ("Misuse",)
BEYONDS = ("Beyond",)


def hashable(value):
    """The value itself, or the tuple of its items if it is a list."""
    return tuple(value) if isinstance(value, list) else value


def cut_of(atom):
    """The least integer for which an order sign says another thing than for the one before it."""
    return atom.constant if atom.sign in ("<", ">=") else atom.constant + 1


def cuts_up_to(cuts, number):
    """How many of the ascending cuts are at most this number."""
    low = 0
    high = len(cuts)
    while low < high:
        middle = (low + high) // 2
        if cuts[middle] <= number:
            low = middle + 1
        else:
            high = middle
    return low


class Lens:
    """What atoms with the same subject tell apart; for `len`, the subject is the length."""

    def __init__(self, atoms):
        self.truth = False
        self.constants = {}
        kinds = []
        cuts = []
        for atom in atoms:
            if atom.word == "true":
                self.truth = True
            elif atom.word == "is":
                kinds.append(atom.constant)
            elif atom.sign in EQUAL_SIGNS:
                self.constants.setdefault(hashable(atom.constant), len(self.constants))
            else:
                cuts.append(cut_of(atom))
        self.kinds = sorted(set(kinds))
        self.cuts = sorted(set(cuts))

    def view(self, value):
        """A tuple that is equal for two values just if each atom says the same of both."""
        told = [is_of_kind(value, kind) for kind in self.kinds]
        if self.truth:
            told.append(bool(value))
        if self.constants:
            told.append(self.constants.get(hashable(value), -1))
        if self.cuts:
            told.append(cuts_up_to(self.cuts, value) if is_integer(value) else MISUSE)
        return tuple(told)


def first_free_word(taken):
    """The first word, except for the empty one, that is none of these."""
    words = [""]
    while True:
        words = [word + letter for word in words for letter in SMALL_LETTERS]
        for word in words:
            if word not in taken:
                return word


def least_items(lenses, others):
    """Items, ascending, with the least one of each class that lenses and other constants tell apart."""
    constants = list(others)
    # 0 stands apart from the numbers beside it, as it is false.
    numbers = [0, 1, -1]
    for lens in lenses:
        constants.extend([constant for constant in lens.constants if not isinstance(constant, tuple)])
        for cut in lens.cuts:
            numbers.extend([cut - 1, cut])
    for constant in constants:
        if is_integer(constant):
            numbers.extend([constant - 1, constant, constant + 1])
    words = [constant for constant in constants if isinstance(constant, str)]
    words.extend(["", first_free_word(words)])
    return sorted([None, *sorted(set(numbers)), *sorted(set(words))], key=item_key)

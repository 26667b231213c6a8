"""Families: the error classes that a test can name, each directly under another one."""

from whatpasses.errors import BadFamily, NoClass
from whatpasses.kinds import CAPITAL_LETTERS, SMALL_LETTERS, consists_of

ROOT = "Error"
FIRST_CLASSES = (("Error", None), ("Failed", "Error"), ("Misuse", "Error"), ("Beyond", "Misuse"))
MOST_CLASS_LETTERS = 12


def is_class_name(thing):
    """Whether any value is a class name: a capital letter and at most eleven letters."""
    if not isinstance(thing, str) or thing == "" or len(thing) > MOST_CLASS_LETTERS:
        return False
    return thing[0] in CAPITAL_LETTERS and consists_of(thing, SMALL_LETTERS + CAPITAL_LETTERS)


def can_be_declared(pair, above):
    """Whether any value declares one more class in a family whose classes are the keys of above."""
    if not isinstance(pair, tuple) or len(pair) != 2:
        return False
    name, parent = pair
    if not is_class_name(name) or name in above:
        return False
    return parent is None or (isinstance(parent, str) and parent in above)


class Family:
    """The classes that every family has and those that this one declares."""

    def __init__(self, pairs):
        if not isinstance(pairs, (list, tuple)):
            raise BadFamily(-1)
        above = dict(FIRST_CLASSES)
        for at, pair in enumerate(pairs):
            if not can_be_declared(pair, above):
                raise BadFamily(at)
            name, parent = pair
            above[name] = ROOT if parent is None else parent
        self._above = above
        self.declared = tuple(list(above.items())[len(FIRST_CLASSES):])

    def names(self):
        """All classes in the order of the family."""
        return list(self._above)

    def parent(self, name):
        """The class that this one is directly under; None for the uppermost one."""
        if name not in self:
            raise NoClass(name)
        return self._above[name]

    def under(self, one, other):
        """Whether the class one is under the class other; a class is under itself."""
        here = one
        while here is not None and here != other:
            here = self._directly_above(here)
        return here is not None

    def up(self, name):
        """The class itself, then each class above it, up to the uppermost one."""
        here = name
        while here is not None:
            yield here
            here = self._directly_above(here)

    def _directly_above(self, name):
        """The class that this one is directly under; a class that the family does not have counts as under ROOT."""
        return self._above.get(name, ROOT)

    def __contains__(self, x):
        return isinstance(x, str) and x in self._above

    def __len__(self):
        return len(self._above)

    def __eq__(self, other):
        return isinstance(other, Family) and self.declared == other.declared

    def __add__(self, other):
        return Family([*self.declared, other])

    @staticmethod
    def plain():
        """The family without declared classes."""
        return Family(())

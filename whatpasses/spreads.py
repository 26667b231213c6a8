"""Spreads: the least answers for one call text by number, and sets of them.

A set of least answers is an integer: the bit with the number of an answer is 1 if it is in the set.
"""

from whatpasses.answers import copied, weight
from whatpasses.lists import Growth, least_lists


def lowest(mask):
    """The number of the first answer in a set, which is one of those with the least weight."""
    return (mask & -mask).bit_length() - 1


def numbers_in(mask):
    """The numbers of the answers in a set, ascending."""
    numbers = []
    rest = mask
    while rest:
        numbers.append(lowest(rest))
        rest = rest & rest - 1
    return numbers


def key_of(answer):
    """An answer as it can stand in a dict."""
    return ("list", *answer) if isinstance(answer, list) else answer


class Spread:
    """The least answers for one call text, ascending, with what is shown of each (see Looks and Raisings)."""

    def __init__(self, looks, raisings):
        self.looks = looks
        self.raisings = raisings
        growth = Growth(looks)
        firsts = {}
        for item in growth.samples:
            firsts.setdefault(looks.view(item), item)
        for answer in raisings.least_raised():
            firsts[raisings.view(answer)] = answer
        for view, answer in least_lists(growth).items():
            firsts.setdefault(view, answer)
        self.leasts = list(firsts.values())
        self.full = (1 << len(self.leasts)) - 1
        self.raised = [at for at, answer in enumerate(self.leasts) if isinstance(answer, tuple)]
        self.unraised = self.full - sum([1 << at for at in self.raised])
        self._views = list(firsts)
        self._numbers = {view: at for at, view in enumerate(self._views)}
        self._places = {key_of(answer): at for at, answer in enumerate(self.leasts)}
        self._weights = [weight(answer) for answer in self.leasts]
        self._sorts = {}
        self._heavy = {}

    def view(self, answer):
        """What is shown of an answer: equal just for alike ones."""
        if isinstance(answer, tuple):
            return self.raisings.view(answer)
        return self.looks.view(answer)

    def number_of(self, answer):
        """The number of the least answer that is alike to an answer."""
        place = self._places.get(key_of(answer))
        return self._numbers[self.view(answer)] if place is None else place

    def answer_at(self, number):
        """The least answer with this number; lists are new."""
        return copied(self.leasts[number])

    def weight_of(self, mask):
        """The least weight of the answers in a set."""
        return self._weights[lowest(mask)]

    def at_least(self, least):
        """The set of all answers with at least this weight."""
        if least not in self._heavy:
            # The answers ascend by weight, too.
            lighter = len([own for own in self._weights if own < least])
            self._heavy[least] = self.full >> lighter << lighter
        return self._heavy[least]

    def sorts(self, column):
        """The sets of answers of which the same is shown in a column, without the raised errors."""
        if column not in self._sorts:
            at = self.looks.columns[column]
            sets = {}
            for number, view in enumerate(self._views):
                if view[0] != "raises":
                    sets[view[at]] = sets.get(view[at], 0) | 1 << number
            self._sorts[column] = list(sets.values())
        return self._sorts[column]

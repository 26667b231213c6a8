"""Lists: the least one of each class of alike lists, found by making lists longer item by item."""

from whatpasses.lenses import least_items

LAST = -1


class Growth:
    """What tests can still tell apart of a list when items are added to it.

    A state is a tuple of what is known of a list: its length as far as anything depends on it, the constant that it is
    or begins, the members that it has, what is shown of its items at indexes and of the last one, and the states of the
    loops. Lists with the same state are alike, and stay so when the same items are added to both.
    """

    def __init__(self, looks):
        self.looks = looks
        constants = [constant for constant in looks.whole.constants if isinstance(constant, tuple)]
        lenses = [looks.whole, *list(looks.lenses.values()), *[loop.lens for loop in looks.loops]]
        others = [item for constant in constants for item in constant]
        self.samples = least_items(lenses, [*looks.members, *others])
        self._members = {constant: at for at, constant in enumerate(looks.members)}
        self._matches = [
            {constant[place]: True for constant in constants if len(constant) > place}
            for place in range(max([0, *[len(constant) for constant in constants]]))
        ]
        self._begin(constants)
        # From this place on all items are alike but for members, the last item and loops.
        self._far = max([len(self._matches), *[index + 1 for index in looks.lenses]])
        self._most = max([self._far, 1, *[length + 1 for length in [*looks.length.constants, *looks.length.cuts]]])
        self._options = {}

    def _begin(self, constants):
        """Numbers the beginnings of the constants, and notes how one item leads from one to another."""
        begun = {(): 0}
        for constant in constants:
            for many in range(1, len(constant) + 1):
                begun.setdefault(constant[:many], len(begun))
        self._longer = {(begun[start[:-1]], start[-1]): begun[start] for start in begun if start}

    def start(self):
        """The state of the empty list."""
        return (0, 0, 0, (), None, tuple([0 for _ in self.looks.loops]))

    def options(self, place):
        """The items that differ at this place, the least one of each class, with all that the state behind needs."""
        near = min(place, self._far)
        if near not in self._options:
            firsts = {}
            for item in self.samples:
                view = self._view(item, near)
                firsts.setdefault(view, (item, *view[1:]))
            self._options[near] = list(firsts.values())
        return self._options[near]

    def _view(self, item, place):
        """What can be told about an item at this place."""
        match = (item,) if place < len(self._matches) and item in self._matches[place] else ()
        here = self.looks.lenses[place].view(item) if place in self.looks.lenses else None
        last = self.looks.lenses[LAST].view(item) if LAST in self.looks.lenses else None
        letters = tuple([loop.letter_of(item) for loop in self.looks.loops])
        return (match, self._members.get(item, -1), here, last, letters)

    def grown(self, state, option):
        """The state behind one more item."""
        length, begun, members, heres, _, states = state
        item, member, here, last, letters = option
        if member >= 0:
            members = members | 1 << member
        return (
            min(length + 1, self._most),
            self._longer.get((begun, item), -1),
            members,
            heres if here is None else (*heres, here),
            last,
            tuple([loop.after(before, letter) for loop, before, letter in zip(self.looks.loops, states, letters)]),
        )


def least_lists(growth):
    """The least list of each class of alike ones, ascending: a dict from what is shown of them."""
    found = {}
    seen = {growth.start(): True}
    rows = [([], growth.start())]
    place = 0
    while rows:
        longer = []
        for items, state in list(rows):
            found.setdefault(growth.looks.view_of_list(items, state[-1]), items)
            for option in growth.options(place):
                grown = growth.grown(state, option)
                if grown not in seen:
                    seen[grown] = True
                    longer.append(([*items, option[0]], grown))
        rows = longer
        place += 1
    return found

"""Loops: what a `for` block makes of a list, item by item, whatever the flags were before it."""

from whatpasses.lenses import Lens, least_items
from whatpasses.moves import BREAKS, CONTINUES, item_way


def flags_of(rows):
    """The flags that these rows mention, ascending."""
    atoms = [literal.atom for row in rows for literal in row.literals]
    flags = [atom.constant for atom in atoms if atom.word == "on"]
    flags.extend([row.name for row in rows if row.word in ("set", "clear")])
    return sorted(set(flags))


def settings_of(flags):
    """All settings of these flags, each a tuple of those that are on."""
    settings = [()]
    for flag in flags:
        settings = [*settings, *[(*setting, flag) for setting in settings]]
    return settings


def outcome_of(way, flags):
    """What a `for` block comes to that is left in this way; behind a skip nobody asks for the flags."""
    if way == BREAKS:
        return (None, flags)
    return (way, ()) if way[0] == "skips" else (way, flags)


def numbered(rows):
    """For each of these values a number from 0, the same for equal ones."""
    numbers = {}
    return [numbers.setdefault(row, len(numbers)) for row in rows]


class Machine:
    """The places of one item after the other, and to what the block comes if no item follows.

    The first places, one for each setting of the flags, go on; the others stay where they are. A letter is a tuple that
    says to which place each of the first ones goes by an item.
    """

    def __init__(self, test, row, settings):
        self.family = test.family
        self.row = row
        self.settings = settings
        self.outcomes = [(None, setting) for setting in settings]
        self._going = {setting: place for place, setting in enumerate(settings)}
        self._ended = {}

    def letter(self, item):
        """What this item does."""
        return tuple([self._place(item, setting) for setting in self.settings])

    def _place(self, item, setting):
        """The place behind an item that comes when these flags are on."""
        way, flags = item_way(self.family, self.row, item, setting)
        if way is None or way == CONTINUES:
            return self._going[flags]
        outcome = outcome_of(way, flags)
        if outcome not in self._ended:
            self._ended[outcome] = len(self.outcomes)
            self.outcomes.append(outcome)
        return self._ended[outcome]

    def target(self, place, letter):
        """Where a letter leads."""
        return letter[place] if place < len(self.settings) else place

    def classes(self, letters):
        """For each place the number of its class: places of a class come to the same, whatever letters follow."""
        classes = numbered(self.outcomes)
        while True:
            rows = []
            for place, own in enumerate(classes):
                rows.append((own, *[classes[self.target(place, letter)] for letter in letters]))
            finer = numbered(rows)
            if max(finer) == max(classes):
                return classes
            classes = finer


class Loop:
    """A `for` block by the states that it has behind the items of a list: numbers from 0, the one before any item.

    A state tells for each setting of the flags that its rows mention what it comes to and how it can go on.
    """

    def __init__(self, test, row):
        rows = test.rows[row.line + 1:row.end.line]
        atoms = [literal.atom for inner in rows for literal in inner.literals]
        self.lens = Lens([atom for atom in atoms if atom.word != "on"])
        machine = Machine(test, row, settings_of(flags_of(rows)))
        letters = {}
        for item in least_items([self.lens], []):
            view = self.lens.view(item)
            if view not in letters:
                letters[view] = machine.letter(item)
        self._keep(machine, letters)

    def _keep(self, machine, letters):
        """Keeps the classes of places, and the letters that lead to other classes."""
        classes = machine.classes(sorted(set(list(letters.values()))))
        firsts = {}
        for place, own in enumerate(classes):
            firsts.setdefault(own, place)
        places = [firsts[own] for own in sorted(firsts)]
        moves = {}
        for view, letter in letters.items():
            moves[view] = tuple([classes[machine.target(place, letter)] for place in places])
        self._moves = sorted(set(list(moves.values())))
        numbers = {move: at for at, move in enumerate(self._moves)}
        self._letters = {view: numbers[move] for view, move in moves.items()}
        self._outcomes = numbered([machine.outcomes[place] for place in places])
        start = tuple(classes[:len(machine.settings)])
        self._states = [start]
        self._numbers = {start: 0}
        self._steps = {}

    def letter_of(self, item):
        """A number that says how an item changes the states."""
        return self._letters[self.lens.view(item)]

    def after(self, state, letter):
        """The state behind one more item with this letter."""
        step = (state, letter)
        if step not in self._steps:
            move = self._moves[letter]
            classes = tuple([move[own] for own in self._states[state]])
            if classes not in self._numbers:
                self._numbers[classes] = len(self._states)
                self._states.append(classes)
            self._steps[step] = self._numbers[classes]
        return self._steps[step]

    def state_of(self, answer):
        """The state behind all items of a list."""
        state = 0
        for item in answer:
            state = self.after(state, self.letter_of(item))
        return state

    def view(self, state):
        """A tuple that is equal for two states just if the block comes to the same for each setting."""
        return tuple([self._outcomes[own] for own in self._states[state]])

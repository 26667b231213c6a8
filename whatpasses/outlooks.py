"""Outlooks: what can come behind each question of a test, whatever the answers were that led to it."""


class Prospect:
    """What can come behind the questions at one place.

    Its turns are triples: a set of answers, the place of the next question or None, and the end that comes otherwise.
    The mentions are the calls that can be asked about from here on, the let names those by which earlier calls can be.
    """

    def __init__(self, node, turns, prospects):
        thing = asked_thing(node.spot)
        self.call = node.path[-1]
        self.is_new = thing.name is None
        self.turns = turns
        ends = [end for _, place, end in turns if place is None]
        calls = [self.call]
        names = [] if self.is_new else [thing.name]
        for _, place, _ in turns:
            if place is not None:
                ends.extend(prospects[place].ends)
                calls.extend(prospects[place].mentions)
                names.extend(prospects[place].let_names)
        self.ends = sorted(set(ends))
        self.mentions = sorted(set(calls))
        self.let_names = sorted(set(names))


def asked_thing(spot):
    """The thing that a question is about."""
    row = spot.row
    return row.literals[spot.step].atom.thing if row.literals else row.thing


def prospects_of(chart):
    """The prospect of the place of each question, the last ones in the test first.

    The chart is one of steady parts that tells no rows apart, so there is one node for each place.
    """
    reached = {}
    waiting = [chart.first()]
    while waiting:
        node = waiting.pop()
        if node.path is not None and node.place not in reached:
            reached[node.place] = node
            waiting.extend([target for _, target in chart.edges(node)])
    prospects = {}
    # A test only goes forward, so what comes behind a question is known before the question is.
    for node in sorted(list(reached.values()), key=lambda node: node.place[:2], reverse=True):
        turns = []
        for mask, target in chart.edges(node):
            turns.append((mask, None, target.place) if target.path is None else (mask, target.place, None))
        prospects[node.place] = Prospect(node, turns, prospects)
    return prospects

"""Parts: which answer they give on which path."""

from whatpasses.answers import copied, is_answer, total_weight
from whatpasses.calls import is_path
from whatpasses.errors import BadPart, Raised


def is_entry(thing, ageing):
    """Whether any value is a pair of a path, of a steady or an ageing part, and an answer."""
    if not isinstance(thing, tuple) or len(thing) != 2:
        return False
    path, answer = thing
    return is_path(path, ageing=ageing) and is_answer(answer)


class Part:
    """An answer for each path; all but finitely many of them are None."""

    def __init__(self, entries=(), *, ageing=False):
        if not isinstance(entries, (list, tuple)):
            raise BadPart(-1)
        answers = {}
        for at, entry in enumerate(entries):
            if not is_entry(entry, ageing):
                raise BadPart(at)
            path, answer = entry
            if path in answers:
                raise BadPart(at)
            answers[path] = copied(answer)
        self.ageing = ageing
        self._answers = {path: answers[path] for path in sorted(answers) if answers[path] is not None}

    @property
    def entries(self):
        """The paths whose answer is not None, ascending, each in a pair with its answer."""
        return tuple([(path, copied(answer)) for path, answer in self._answers.items()])

    @property
    def weight(self):
        """The sum of the weights of the entries."""
        return total_weight(list(self._answers.values()))

    def answer(self, *calls):
        """The answer to the last one of these calls, where the others were made before it."""
        path = calls if self.ageing else calls[-1:]
        return copied(self._answers.get(path))

    def __call__(self, call, before=()):
        answer = self.answer(*before, call)
        if isinstance(answer, tuple):
            _, kind, cause = answer
            raise Raised(kind, cause)
        return answer

    def __len__(self):
        return len(self._answers)

    def __eq__(self, other):
        return isinstance(other, Part) and self.ageing == other.ageing and self._answers == other._answers

    def __or__(self, other):
        more = [entry for entry in other.entries if entry[0] not in self._answers]
        return Part([*self.entries, *more], ageing=self.ageing)

    @staticmethod
    def steady(answers):
        """The steady part that gives these answers to these call texts."""
        return Part([((text,), answers[text]) for text in sorted(answers)])

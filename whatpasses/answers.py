"""Answers of a part: what they are, what they weigh and how they are ordered."""

from whatpasses.families import is_class_name
from whatpasses.kinds import is_integer, is_small_word

MOST_WORD_LETTERS = 30


def is_item(thing):
    """Whether any value is an item: None, an integer or a word."""
    return thing is None or is_integer(thing) or is_small_word(thing, MOST_WORD_LETTERS)


def is_raised(thing):
    """Whether any value is a tuple that stands for a raised error."""
    if not isinstance(thing, tuple) or len(thing) != 3:
        return False
    word, kind, cause = thing
    return word == "raises" and is_class_name(kind) and (cause is None or is_class_name(cause))


def is_answer(thing):
    """Whether any value is an answer: an item, a list of items or a raised error."""
    if isinstance(thing, list):
        return all([is_item(item) for item in thing])
    return is_item(thing) or is_raised(thing)


def weight(answer):
    """The weight of an answer, by which parts are compared."""
    if answer is None:
        return 0
    if isinstance(answer, list):
        return 1 + len(answer)
    return 1


def total_weight(answers):
    """The sum of the weights of these answers."""
    return sum([weight(answer) for answer in answers])


def copied(answer):
    """The answer itself, or a new list of the same items."""
    return list(answer) if isinstance(answer, list) else answer


def item_key(item):
    """What an item is ordered by; the first number keeps the kinds apart."""
    if item is None:
        return (0,)
    if isinstance(item, int):
        return (1, abs(item), 1 if item < 0 else 0)
    return (2, len(item), item)


def class_key(places, name):
    """What a class is ordered by: no class, the classes with a place, then all others by their names."""
    if name is None:
        return (-1, "")
    if name in places:
        return (places[name], "")
    return (len(places), name)


def answer_key(places, answer):
    """What an answer is ordered by, in the family whose classes have these places."""
    if isinstance(answer, tuple):
        _, kind, cause = answer
        return (3, class_key(places, kind), class_key(places, cause))
    if isinstance(answer, list):
        return (4, len(answer), [item_key(item) for item in answer])
    return item_key(answer)


def ascending(family, *answers):
    """The answers in the order of answers, as a new list in which the lists are new, too."""
    places = {name: at for at, name in enumerate(family.names())}
    return sorted([copied(answer) for answer in answers], key=lambda row: answer_key(places, row))

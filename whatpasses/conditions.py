"""Conditions: how they are read, and what their atoms say about a value."""

from whatpasses.calls import is_constant_text, is_number_text, is_string_text
from whatpasses.kinds import is_integer
from whatpasses.tokens import CannotStand

ALL_SIGNS = ("==", "!=", "<", "<=", ">", ">=")
EQUAL_SIGNS = ("==", "!=")
KIND_WORDS = ("none", "number", "word", "list")
INDEXES = ("-1", "0", "1", "2", "3", "4", "5", "6", "7", "8", "9")
MOST_ATOMS = 6
MOST_LIST_CONSTANTS = 6
MOST_LENGTH = 20
MISUSE = "Misuse"
BEYOND = "Beyond"
# Where a literal leads if it decides the whole condition; otherwise it leads to the index of another literal.
TRUE = -1
FALSE = -2


class Thing:
    """What is asked about: a call or the name of a `let` line, and the call text that it stands for either way.

    The item of a `for` block is one with a name and without a call text.
    """

    def __init__(self, call, name):
        self.call = call
        self.name = name


class Atom:
    """One question about the value of a thing, or about a flag.

    Its word is "true" for a subject alone, "sign" for a comparison, "is", "len" and "in" for what these ask, and "on"
    for a flag. The constant is what stands beside the subject: a value, a list, a kind word, or the name of the flag.
    """

    def __init__(self, thing, index, word, sign, constant):
        self.thing = thing
        self.index = index
        self.word = word
        self.sign = sign
        self.constant = constant


class Literal:
    """An atom or its opposite, and the literals at which the condition goes on behind it."""

    def __init__(self, atom, wanted):
        self.atom = atom
        self.wanted = wanted
        self.then = TRUE
        self.otherwise = FALSE


class Scope:
    """The names that a line sees: those of `let` lines with their call texts, and the name of a `for` line or None."""

    def __init__(self, lets, item):
        self.lets = lets
        self.item = item


def take_called(cursor, scope):
    """Takes a thing that is written as a call; none can stand in the rows of a `for` block."""
    if scope.item is not None:
        raise CannotStand()
    return Thing(cursor.take_call(), None)


def take_thing(cursor, scope):
    """Takes a thing; none can stand in the rows of a `for` block."""
    if cursor.peek(1) == "(":
        return take_called(cursor, scope)
    name = cursor.take()
    if scope.item is not None or name not in scope.lets:
        raise CannotStand()
    return Thing(scope.lets[name], name)


def take_index(cursor):
    """Takes an index in brackets and returns it, or None where none comes."""
    if not cursor.skips("["):
        return None
    index = int(cursor.take_one_of(INDEXES))
    cursor.expect("]")
    return index


def take_length(cursor):
    """Takes the number that a length is compared with."""
    token = cursor.take()
    if not is_number_text(token) or not 0 <= int(token) <= MOST_LENGTH:
        raise CannotStand()
    return int(token)


def take_right_side(cursor, sign):
    """Takes what a subject is compared with by this sign."""
    if sign not in EQUAL_SIGNS:
        if not is_number_text(cursor.peek()):
            raise CannotStand()
    elif cursor.skips("["):
        return cursor.take_constants("]", MOST_LIST_CONSTANTS)
    return cursor.take_constant()


def take_subject_atom(cursor, scope):
    """Takes an atom that begins with a subject."""
    index = None
    if scope.item is not None and cursor.skips(scope.item):
        thing = Thing(None, scope.item)
    else:
        thing = take_thing(cursor, scope)
        index = take_index(cursor)
    if cursor.skips("is"):
        return Atom(thing, index, "is", "", cursor.take_one_of(KIND_WORDS))
    if cursor.peek() not in ALL_SIGNS:
        return Atom(thing, index, "true", "", None)
    sign = cursor.take()
    return Atom(thing, index, "sign", sign, take_right_side(cursor, sign))


def take_atom(cursor, scope):
    """Takes an atom."""
    if cursor.skips("on"):
        return Atom(None, None, "on", "", cursor.take_name())
    if cursor.skips("len"):
        cursor.expect("(")
        thing = take_thing(cursor, scope)
        cursor.expect(")")
        sign = cursor.take_one_of(ALL_SIGNS)
        return Atom(thing, None, "len", sign, take_length(cursor))
    if is_constant_text(cursor.peek()):
        constant = cursor.take_constant()
        cursor.expect("in")
        return Atom(take_thing(cursor, scope), None, "in", "", constant)
    return take_subject_atom(cursor, scope)


def take_literal(cursor, scope):
    """Takes an atom with or without `not`."""
    wanted = not cursor.skips("not")
    return Literal(take_atom(cursor, scope), wanted)


def take_term(cursor, scope):
    """Takes literals with `and` between them."""
    literals = [take_literal(cursor, scope)]
    while cursor.skips("and"):
        literals.append(take_literal(cursor, scope))
    return literals


def take_condition(cursor, scope):
    """Takes a condition and returns its literals, in order."""
    terms = [take_term(cursor, scope)]
    while cursor.skips("or"):
        terms.append(take_term(cursor, scope))
    literals = []
    for at, term in enumerate(terms):
        behind = len(literals) + len(term)
        for literal in term:
            literals.append(literal)
            literal.then = len(literals) if len(literals) < behind else TRUE
            literal.otherwise = behind if at + 1 < len(terms) else FALSE
    if len(literals) > MOST_ATOMS:
        raise CannotStand()
    return literals


def take_string(cursor):
    """Takes a string."""
    if not is_string_text(cursor.take()):
        raise CannotStand()


def compared(value, sign, constant):
    """Whether a comparison holds, or the class of the error that it raises."""
    if sign == "==":
        return value == constant
    if sign == "!=":
        return value != constant
    if not is_integer(value):
        return MISUSE
    if sign == "<":
        return value < constant
    if sign == "<=":
        return value <= constant
    if sign == ">":
        return value > constant
    return value >= constant


def is_of_kind(value, kind):
    """Whether a value is of the kind that one of the kind words names."""
    if kind == "none":
        return value is None
    if kind == "number":
        return is_integer(value)
    if kind == "word":
        return isinstance(value, str)
    return isinstance(value, list)


def asked_of_list(atom, value):
    """What an atom about a whole list says about a value, as `outcome` does."""
    if not isinstance(value, list):
        return MISUSE
    if atom.word == "in":
        return atom.constant in value
    return compared(len(value), atom.sign, atom.constant)


def outcome(atom, value):
    """Whether an atom holds for the value of its thing, or the class of the error that it raises."""
    if atom.word == "in" or atom.word == "len":
        return asked_of_list(atom, value)
    subject = value
    if atom.index is not None:
        if not isinstance(value, list):
            return MISUSE
        if not -len(value) <= atom.index < len(value):
            return BEYOND
        subject = value[atom.index]
    if atom.word == "is":
        return is_of_kind(subject, atom.constant)
    if atom.word == "sign":
        return compared(subject, atom.sign, atom.constant)
    return bool(subject)


def chosen(literal, holds):
    """Where a condition goes on behind a literal whose atom holds or not."""
    return literal.then if holds == literal.wanted else literal.otherwise


def past_flags(literals, start, flags):
    """The first literal from this one on that asks about a value, or TRUE or FALSE; flags are those that are on."""
    at = start
    while at >= 0 and literals[at].atom.word == "on":
        at = chosen(literals[at], literals[at].atom.constant in flags)
    return at


def truth(literals, item, flags):
    """Whether a condition about an item holds, or the class of the error that it raises."""
    at = past_flags(literals, 0, flags)
    while at >= 0:
        holds = outcome(literals[at].atom, item)
        if isinstance(holds, str):
            return holds
        at = past_flags(literals, chosen(literals[at], holds), flags)
    return at == TRUE

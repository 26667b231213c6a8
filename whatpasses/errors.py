"""The errors of the package. Each keeps the values that it was made with, unchanged, in its fields."""


class WhatpassesError(ValueError):
    """Stands above the errors about wrong values; it is not raised itself."""


class BadFamily(WhatpassesError):
    """The pairs of a family are wrong: at this index, or -1 for the value as a whole."""

    def __init__(self, at):
        self.at = at


class BadCall(WhatpassesError):
    """A call cannot be written: for the constant at this index, or -1 for its name."""

    def __init__(self, at):
        self.at = at


class BadTest(WhatpassesError):
    """A text is no test: for the line with this number, or -1 if it is no string."""

    def __init__(self, at):
        self.at = at


class BadPart(WhatpassesError):
    """The entries of a part are wrong: at this index, or -1 for the value as a whole."""

    def __init__(self, at):
        self.at = at


class BadSuite(WhatpassesError):
    """Tests or lines make no suite: for the one at this index, or -1 for the value as a whole."""

    def __init__(self, at):
        self.at = at


class OtherFamily(WhatpassesError):
    """Families that must be equal differ: at this index, or -1 for two suites."""

    def __init__(self, at):
        self.at = at


class BadDemand(WhatpassesError):
    """The value at this index is no demand."""

    def __init__(self, at):
        self.at = at


class BadDeed(WhatpassesError):
    """The deed at this index is refused."""

    def __init__(self, at):
        self.at = at


class NoClass(LookupError):
    """A family has no class of this name."""

    def __init__(self, name):
        self.name = name


class NoCall(LookupError):
    """No test mentions this call text."""

    def __init__(self, text):
        self.text = text


class NoTest(LookupError):
    """A suite has no test of this name."""

    def __init__(self, name):
        self.name = name


class NoCheck(LookupError):
    """The line with this number is not the line of a check."""

    def __init__(self, line):
        self.line = line


class NothingToUndo(LookupError):
    """A desk has no run that can be undone."""


class Raised(RuntimeError):
    """A part answers a call by raising an error of this class, with this cause or None."""

    def __init__(self, kind, cause):
        self.kind = kind
        self.cause = cause

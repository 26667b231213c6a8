"""A second, plain reading of points 7 to 15, by other means than the program's: regular expressions and recursion.

The tests compare the program with it. It is slow and knows nothing of the program.
"""

import re

KEYWORDS = (
    "and assert assume break call clear continue else end error except fail for from if in is len let list none not "
    "number on or pass raises return set skip test try under word"
).split()
TOKEN = re.compile(r'[A-Za-z]+|-?[0-9]+|"[a-z]*"|==|!=|<=|>=|[][(),=<>]')
NAME = r"(?!(?:" + "|".join(KEYWORDS) + r")\b)[a-z]{1,12}\b"
NUMBER = r"(?:0|-?[1-9][0-9]{0,29})(?= |\Z)"
STRING = r'"[a-z]{0,8}"'
CONSTANT = rf"(?:{NUMBER}|{STRING}|none\b)"
CALL = rf"{NAME} \( (?:{CONSTANT} (?:, {CONSTANT} ){{0,2}})?\)"
LIST = rf"\[ (?:{CONSTANT} (?:, {CONSTANT} ){{0,5}})?\]"
CLASS = r"[A-Z][A-Za-z]{0,11}\b"
LENGTH = r"(?:1?[0-9]|20)(?= |\Z)"
SIGN = r"(?:==|!=|<=|>=|<|>)"
KIND = r"(?:none|number|word|list)\b"
THING = rf"(?:{CALL}|{NAME})"
ATOM = (
    rf"(?:on {NAME}|len \( {THING} \) {SIGN} {LENGTH}|{CONSTANT} in {THING}"
    rf"|{THING}(?: \[ (?:[0-9]|-1) \])?(?: is {KIND}| (?:==|!=) {CONSTANT}| (?:==|!=) {LIST}| (?:<=|>=|<|>) {NUMBER}|))"
)
LITERAL = rf"(?:not )?{ATOM}"
CONDITION = rf"{LITERAL}(?: (?:and|or) {LITERAL}){{0,5}}"
ROWS = {
    "plain": re.compile(r"(pass|fail|return|skip)"),
    "jump": re.compile(r"(break|continue)"),
    "call": re.compile(rf"(call) ({CALL})"),
    "let": re.compile(rf"(let) ({NAME}) = ({CALL})"),
    "flag": re.compile(rf"(set|clear) ({NAME})"),
    "ask": re.compile(rf"(assert|assume) ({CONDITION})"),
    "tuple": re.compile(rf"(assert) \( ({CONDITION}) , {STRING} \)"),
    "raises": re.compile(rf"(raises) ({CLASS})(?: from ({CLASS}))?"),
    "if": re.compile(rf"(if) ({CONDITION})"),
    "try": re.compile(r"(try)"),
    "for": re.compile(rf"(for) ({NAME}) in ({THING})"),
}


class Refused(Exception):
    def __init__(self, line):
        self.line = line


def split_line(line):
    """The tokens joined by single spaces, or None."""
    rest, tokens = line.lstrip(" "), []
    while rest:
        found = TOKEN.match(rest)
        if not found:
            return None
        tokens.append(found.group())
        rest = rest[found.end():].lstrip(" ")
    return " ".join(tokens)


def pretty(joined):
    text = re.sub(r"([(\[]) ", r"\1", joined)
    text = re.sub(r" ([)\],])", r"\1", text)
    text = re.sub(r"\b([a-z]+) \(", lambda found: found.group(1) + ("(" if found.group(1) != "assert" else " ("), text)
    return re.sub(r"([a-z\])]) \[", r"\1[", text)


class Plain:
    """A test: nested lists of (line, kind, match groups, ...)."""

    def __init__(self, lines, classes, first=0):
        self.lines, self.classes, self.at, self.first = lines, classes, first, first
        self.flags, self.calls, self.checks, self.shown, self.conditions = [], [], [], [], {}
        # What asks about the answers to a call: (call, atom) and (call, row).
        self.atoms, self.loops, self.classes_named, self.causes_named = [], [], set(), set()
        found = re.fullmatch(rf"test ({NAME})", self.line() or "")
        if not found:
            raise Refused(self.at)
        self.name = found.group(1)
        self.show(0)
        self.rows, word = self.read_rows({}, 0, None, ("end",))
        self.show(0)

    def line(self):
        if self.at == len(self.lines) or self.at - self.first >= 40:
            raise Refused(self.at)
        return split_line(self.lines[self.at])

    def show(self, depth):
        self.shown.append("  " * depth + pretty(self.line()))
        self.at += 1

    def refuse_unless(self, holds):
        if not holds:
            raise Refused(self.at)

    def read_rows(self, outer, depth, item, ends):
        """Rows up to a line that is one of the ends; names that rows give are visible in these rows only."""
        names, rows = dict(outer), []
        while True:
            joined = self.line()
            self.refuse_unless(joined)
            word = joined.split(" ")[0]
            if word in ends and (re.fullmatch(rf"except ({CLASS})", joined) if word == "except" else joined == word):
                self.refuse_unless(word != "except" or joined.split(" ")[1] in self.classes)
                if word == "except":
                    self.classes_named.add(joined.split(" ")[1])
                return rows, joined
            kinds = [kind for kind, shape in ROWS.items() if shape.fullmatch(joined)]
            self.refuse_unless(len(kinds) == 1)
            rows.append(self.read_row(kinds[0], ROWS[kinds[0]].fullmatch(joined).groups(), names, depth, item))

    def read_row(self, kind, groups, names, depth, item):
        line = self.at - self.first
        if kind in ("jump", "call", "let", "for"):
            self.refuse_unless((item is not None) == (kind == "jump"))
        if kind in ("raises", "if", "try", "for"):
            self.refuse_unless(depth < 6)
        if kind == "raises":
            self.refuse_unless(all(name in self.classes for name in groups[1:] if name))
            self.classes_named.add(groups[1])
            self.causes_named |= {groups[2]} - {None}
        if kind == "flag":
            self.mention_flag(groups[1])
        if kind in ("let", "for"):
            self.refuse_unless(groups[1] not in names)
        if kind in ("ask", "tuple", "if"):
            self.conditions[line] = self.read_condition(groups[1], names, item)
        if kind == "for":
            self.read_thing(groups[2], names)
        if kind in ("call", "let"):
            self.read_thing(groups[-1], {})
        if kind == "let":
            names[groups[1]] = pretty(groups[2])
        if kind == "tuple" or groups[0] in ("assert", "fail"):
            self.checks.append(line)
        self.show(depth + 1)
        row = (line, kind, groups, *self.read_rest(kind, groups, names, depth, item))
        if kind == "for":
            self.loops.append((names.get(groups[2]) or pretty(groups[2]), row))
        return row

    def read_rest(self, kind, groups, names, depth, item):
        """The rows of a block: a list of (heading, rows)."""
        if kind not in ("raises", "if", "try", "for"):
            return ()
        inner = groups[1] if kind == "for" else item
        ends = {"if": ("else", "end"), "try": ("except",)}.get(kind, ("end",))
        parts, heading = [], ""
        while heading != "end":
            rows, following = self.read_rows(names, depth + 1, inner, ends)
            parts.append((heading, rows, self.at - self.first))
            heading = following
            self.show(depth + 1)
            ends = ("end",) if heading in ("else", "end") else ("except", "else", "end")
        return (parts,)

    def mention_flag(self, name):
        if name not in self.flags:
            self.flags.append(name)
        self.refuse_unless(len(self.flags) <= 3)

    def read_thing(self, text, names):
        if " (" in text:
            self.calls.append(pretty(text))
        else:
            self.refuse_unless(text in names)

    def read_condition(self, text, names, item):
        """Lists of lists of (wanted, atom); an atom is its tokens."""
        terms = []
        for term in text.split(" or "):
            literals = []
            for literal in term.split(" and "):
                wanted = not literal.startswith("not ")
                atom = literal if wanted else literal[4:]
                self.read_atom(atom, names, item)
                literals.append((wanted, atom))
            terms.append(literals)
        return terms

    def read_atom(self, atom, names, item):
        if atom.startswith("on "):
            self.mention_flag(atom[3:])
            return
        found = re.match(rf"(?:len \( |{CONSTANT} in )?({THING})( \[ (?:[0-9]|-1) \](?! ,))?", atom)
        if item is None:
            self.read_thing(found.group(1), names)
            self.atoms.append((names.get(found.group(1)) or pretty(found.group(1)), atom))
        else:
            whole = re.fullmatch(rf"({NAME})( (is|==|!=|<|<=|>|>=) .*)?", atom)
            self.refuse_unless(whole and whole.group(1) == item)


def plain_test(text, classes):
    """A Plain, or the line at which the text is refused."""
    lines = text.split("\n")
    try:
        plain = Plain(lines, classes)
        return plain if plain.at == len(lines) else plain.at
    except Refused as refused:
        return refused.line


def plain_suite(text, under):
    """A pair (declared classes, tests), or the line at which the text is refused; under: the classes of the plain
    family with what each is directly under."""
    lines, at, pairs, tests, above = (text.split("\n") if text else []), 0, [], [], dict(under)
    try:
        while at < len(lines):
            joined = split_line(lines[at])
            if not joined or joined.split(" ")[0] != "error":
                break
            found = re.fullmatch(rf"error ({CLASS})(?: under ({CLASS}))?", joined)
            if not found or found.group(1) in above or (found.group(2) or "Error") not in above:
                raise Refused(at)
            above[found.group(1)] = found.group(2) or "Error"
            pairs.append((found.group(1), found.group(2) or "Error"))
            at += 1
        while at < len(lines):
            found = re.fullmatch(rf"test ({NAME})", split_line(lines[at]) or "")
            if found and found.group(1) in [test.name for test in tests]:
                raise Refused(at)
            tests.append(Plain(lines, above, at))
            at = tests[-1].at
    except Refused as refused:
        return refused.line
    return pairs, tests


class Wrong(Exception):
    def __init__(self, kind, cause, line=None):
        self.kind, self.cause, self.line = kind, cause, line


class Skipped(Exception):
    def __init__(self, line):
        self.line = line


class Leave(Exception):
    def __init__(self, word):
        self.word = word


def value_of(text):
    if text == "none":
        return None
    return text[1:-1] if text[0] == '"' else int(text)


def compare(left, sign, right):
    if sign in ("==", "!="):
        same = isinstance(left, list) == isinstance(right, list) and left == right
        return same == (sign == "==")
    if not isinstance(left, int):
        raise Wrong("Misuse", None)
    return {"<": left < right, "<=": left <= right, ">": left > right, ">=": left >= right}[sign]


class PlainRun:
    """Executes a Plain; answer is a function of the calls made so far."""

    def __init__(self, plain, above, answer):
        self.plain, self.above, self.answer = plain, above, answer
        self.flags, self.names, self.rows, self.calls, self.item = set(), {}, [], [], None
        try:
            self.execute(plain.rows)
            self.end = ("passes", None, None, None)
        except Leave:
            self.end = ("passes", None, None, None)
        except Skipped as skipped:
            self.end = ("skips", skipped.line, None, None)
        except Wrong as wrong:
            self.end = ("fails", wrong.line, wrong.kind, wrong.cause)

    def under(self, one, other):
        while one != other and one != "Error":
            one = self.above.get(one, "Error")
        return one == other

    def value(self, text):
        """The value of a thing or of the item of a loop."""
        if " (" not in text:
            return self.names[text] if self.item is None else self.item[0]
        self.calls.append(pretty(text))
        answer = self.answer(tuple(self.calls))
        if isinstance(answer, tuple):
            raise Wrong(answer[1], answer[2])
        return answer

    def execute(self, rows):
        for row in rows:
            if self.item is None:
                self.rows.append(row[0])
            try:
                self.execute_row(*row)
            except Wrong as wrong:
                if wrong.line is None:
                    wrong.line = row[0]
                raise

    def execute_row(self, line, kind, groups, parts=None):
        word = groups[0]
        holds = self.holds(self.plain.conditions[line]) if line in self.plain.conditions else None
        if word == "fail" or (kind == "ask" and word == "assert" and not holds):
            raise Wrong("Failed", None)
        if word == "skip" or (word == "assume" and not holds):
            raise Skipped(line)
        if word in ("return", "break", "continue"):
            raise Leave(word)
        if kind in ("call", "let"):
            value = self.value(groups[-1])
            if kind == "let":
                self.names[groups[1]] = value
        if kind == "flag":
            self.flags.discard(groups[1])
            if word == "set":
                self.flags.add(groups[1])
        if parts is not None:
            getattr(self, "execute_" + kind)(line, groups, parts, holds)

    def execute_if(self, line, groups, parts, holds):
        if holds:
            self.execute(parts[0][1])
        elif len(parts) == 2:
            self.execute(parts[1][1])

    def execute_raises(self, line, groups, parts, holds):
        try:
            self.execute(parts[0][1])
        except Wrong as wrong:
            if not self.under(wrong.kind, groups[1]):
                raise
            if groups[2] and not (wrong.cause and self.under(wrong.cause, groups[2])):
                raise Wrong("Failed", None, line) from None
            return
        except Leave:
            pass
        raise Wrong("Failed", None, line)

    def execute_try(self, line, groups, parts, holds):
        try:
            self.execute(parts[0][1])
        except Wrong as wrong:
            for at, (heading, rows, _) in enumerate(parts):
                if heading.startswith("except ") and self.under(wrong.kind, heading[7:]):
                    if self.item is None:
                        self.rows.append(parts[at - 1][2])
                    break
            else:
                raise
        else:
            rows = parts[-1][1] if parts[-1][0] == "else" else []
        self.execute(rows)

    def execute_for(self, line, groups, parts, holds):
        value = self.value(groups[2])
        if not isinstance(value, list):
            raise Wrong("Misuse", None)
        try:
            for item in value:
                self.item = [item]
                try:
                    self.execute(parts[0][1])
                except Leave as leave:
                    if leave.word == "break":
                        break
                    if leave.word == "return":
                        raise
        finally:
            self.item = None

    def holds(self, terms):
        return any(all(self.atom(atom) == wanted for wanted, atom in literals) for literals in terms)

    def atom(self, atom):
        if atom.startswith("on "):
            return atom[3:] in self.flags
        found = re.fullmatch(rf"len \( ({THING}) \) ({SIGN}) ({LENGTH})", atom)
        if found:
            value = self.value(found.group(1))
            if not isinstance(value, list):
                raise Wrong("Misuse", None)
            return compare(len(value), found.group(2), int(found.group(3)))
        found = re.fullmatch(rf"({CONSTANT}) in ({THING})", atom)
        if found:
            value = self.value(found.group(2))
            if not isinstance(value, list):
                raise Wrong("Misuse", None)
            return value_of(found.group(1)) in value
        found = re.fullmatch(rf"({THING})(?: \[ ([0-9]|-1) \])?(?: (is|{SIGN}) (.*))?", atom)
        value = self.value(found.group(1))
        if found.group(2):
            if not isinstance(value, list):
                raise Wrong("Misuse", None)
            try:
                value = value[int(found.group(2))]
            except IndexError:
                raise Wrong("Beyond", None) from None
        sign, right = found.group(3), found.group(4)
        if sign is None:
            return value not in (None, 0, "", [])
        if sign == "is":
            return {type(None): "none", int: "number", str: "word", list: "list"}[type(value)] == right
        return compare(value, sign, value_of(right) if right[0] != "[" else
                       [value_of(text) for text in right[1:-1].strip().split(" , ") if text])


class PlainLook(PlainRun):
    """Asks what a test says about one answer that is no raised error."""

    def __init__(self, plain, above, answer):
        self.plain, self.above, self.fixed = plain, above, answer
        self.flags, self.names, self.rows, self.calls, self.item = set(), {}, [], [], None

    def value(self, text):
        return self.fixed if self.item is None else self.item[0]

    def look(self, atom):
        try:
            return self.atom(atom)
        except Wrong as wrong:
            return wrong.kind

    def loop(self, row, flags):
        """What a `for` block comes to, begun with these flags."""
        self.flags = set(flags)
        try:
            self.execute([row])
            return ("ends", sorted(self.flags))
        except Leave:
            return ("returns", sorted(self.flags))
        except Skipped as skipped:
            return ("skips", skipped.line)
        except Wrong as wrong:
            return (wrong.kind, wrong.line, sorted(self.flags))


def plain_look(plains, above, call, answer):
    """All that point 16 asks of an answer, so that alike answers give equal lists."""
    if isinstance(answer, tuple):
        run = PlainLook(None, above, None)
        kinds = [name for plain in plains for name in sorted(plain.classes_named)]
        causes = [name for plain in plains for name in sorted(plain.causes_named)]
        return ["raised", [run.under(answer[1], name) for name in kinds],
                [answer[2] is not None and run.under(answer[2], name) for name in causes]]
    told = ["value"]
    for plain in plains:
        look = PlainLook(plain, above, answer)
        told += [look.look(atom) for other, atom in plain.atoms if other == call]
        for number in range(2 ** len(plain.flags)):
            flags = [flag for at, flag in enumerate(plain.flags) if number >> at & 1]
            told += [look.loop(row, flags) for other, row in plain.loops if other == call]
    return told


def plain_order(places, answer):
    """The order of point 6 as a key of plain values."""
    def item_place(item):
        if item is None:
            return (0, 0, 0, "")
        return (1, abs(item), item < 0, "") if isinstance(item, int) else (2, len(item), 0, item)

    if isinstance(answer, list):
        return (4, len(answer), [item_place(item) for item in answer])
    if isinstance(answer, tuple):
        return (3, *[(-1, "") if name is None else (places.get(name, 99), "" if name in places else name)
                     for name in answer[1:]])
    return item_place(answer)

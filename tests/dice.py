"""Tests, suites and parts made by chance from a fixed seed, for the comparison with the plain reading."""

NAMES = ("f", "g", "put", "x", "y", "ab", "tests", "abcdefghijkl")
CLASSES = ("Error", "Failed", "Misuse", "Beyond", "Full", "Heap")
CONSTANTS = ("none", "0", "1", "-1", "2", "7", "-12", "9" * 30, "-" + "9" * 30, '""', '"a"', '"ab"', '"abcdefgh"')
CALLS = ("f ( )", "f ( 1 )", 'put ( "ab" , -3 )', "g ( none , 0 , 2 )", "x ( )", "f ( 1 , 2 )")
SIGNS = ("==", "!=", "<", "<=", ">", ">=")
SPOILS = (
    "", "=", "==", "(", ")", "[", "]", ",", "<", "not", "and", "or", "on", "in", "is", "len", "test", "end", "else", "none",
    "word", "if", "try", "for", "f", "x", "A", "Error", "Full", "Fuller", "aB", "abcdefghijklm", "0", "1", "-1", "-0", "00",
    "01", "21", "10", "9" * 31, '"abcdefghi"', '""', "let", "call", "-", "!", ".", '"', '"a', "'a'", "_", "a1", "%", "\t", "~",
    "assert", "from", "raises", "Error from", "under", "continue", "error",
)


class Dice:
    """Makes lines of tokens with single spaces between them."""

    def __init__(self, random):
        self.random = random
        self.pick = random.choice
        self.calls = CALLS

    def chance(self, share):
        return self.random.random() < share

    def thing(self, lets):
        return self.pick(sorted(lets)) if lets and self.chance(0.4) else self.pick(self.calls)

    def atom(self, lets, item):
        if self.chance(0.15):
            return "on " + self.pick(NAMES[:3])
        if item is None and self.chance(0.2):
            return f"len ( {self.thing(lets)} ) {self.pick(SIGNS)} {self.pick(('0', '1', '2', '20'))}"
        if item is None and self.chance(0.2):
            return f"{self.pick(CONSTANTS)} in {self.thing(lets)}"
        subject = item
        if item is None:
            subject = self.thing(lets)
            if self.chance(0.3):
                subject += f" [ {self.pick(('0', '1', '2', '9', '-1'))} ]"
        form = self.random.randrange(5)
        if form == 0:
            return subject
        if form == 1:
            return f"{subject} is {self.pick(('none', 'number', 'word', 'list'))}"
        if form == 2:
            many = " , ".join(self.pick(CONSTANTS) for _ in range(self.pick((0, 1, 1, 2, 6))))
            return f"{subject} {self.pick(SIGNS[:2])} [ " + (many + " ]" if many else "]")
        if form == 3:
            return f"{subject} {self.pick(SIGNS[:2])} {self.pick(CONSTANTS)}"
        return f"{subject} {self.pick(SIGNS)} {self.pick(CONSTANTS[1:9])}"

    def condition(self, lets, item):
        literals = [self.pick(("", "", "not ")) + self.atom(lets, item) for _ in range(self.pick((1, 1, 1, 2, 2, 3, 6)))]
        return "".join(literal + self.pick((" and ", " or ")) for literal in literals[:-1]) + literals[-1]

    def row(self, lets, item):
        words = ["pass", "set", "clear", "assert", "assert", "assert", "assume", "tuple"]
        words += ["call", "call", "let", "let"] if item is None else ["break", "continue"]
        if self.chance(0.1):
            words = ["fail", "return", "skip"]
        word = self.pick(words)
        if word in ("set", "clear"):
            return f"{word} {self.pick(NAMES[:3])}"
        if word in ("assert", "assume"):
            return f"{word} {self.condition(lets, item)}"
        if word == "tuple":
            return f'assert ( {self.condition(lets, item)} , {self.pick(CONSTANTS[-4:])} )'
        if word == "call":
            return f"call {self.pick(self.calls)}"
        if word == "let":
            new = [name for name in NAMES if name not in lets]
            if not new:
                return "pass"
            name = self.pick(new)
            lets.add(name)
            return f"let {name} = {self.pick(self.calls)}"
        return word

    def rows(self, lets, item, depth, many):
        """Lines of rows; names that they give are given in these rows only."""
        lets, lines = set(lets), []
        for _ in range(self.random.randint(0, many)):
            if depth < 6 and self.chance(0.4):
                lines += self.block(lets, item, depth, many)
            else:
                lines.append(self.row(lets, item))
        return lines

    def block(self, lets, item, depth, many):
        word = self.pick(("raises", "if", "try", "try") + (("for", "for") if item is None else ()))
        inner = item
        head = word
        if word == "raises":
            head += " " + self.pick(CLASSES) + (" from " + self.pick(CLASSES) if self.chance(0.4) else "")
        if word == "if":
            head += " " + self.condition(lets, item)
        if word == "for":
            inner = self.pick([name for name in NAMES + ("z",) if name not in lets])
            head += f" {inner} in {self.thing(lets)}"
        lines = [head, *self.rows(lets, inner, depth + 1, many)]
        if word == "try":
            for _ in range(self.pick((1, 1, 2, 3))):
                lines += ["except " + self.pick(CLASSES), *self.rows(lets, inner, depth + 1, many)]
        if word in ("if", "try") and self.chance(0.5):
            lines += ["else", *self.rows(lets, inner, depth + 1, many)]
        return [*lines, "end"]

    def test(self, name, many=3):
        return ["test " + name, *self.rows(set(), None, 0, many), "end"]

    def spoiled(self, lines):
        """The lines with one line or token more, less or other."""
        lines = list(lines)
        at = self.random.randrange(len(lines))
        form = self.random.randrange(6)
        if form == 0:
            del lines[at]
        elif form == 1:
            lines.insert(at, self.pick(("end", "else", "except Error", "break", "", "pass", "try", "call f ( )", "test t")))
        elif form == 2:
            other = self.random.randrange(len(lines))
            lines[at], lines[other] = lines[other], lines[at]
        else:
            tokens = lines[at].split(" ")
            place = self.random.randrange(len(tokens))
            tokens[place:place + (form != 3)] = [self.pick(SPOILS)] if form != 4 else []
            lines[at] = " ".join(tokens)
        return lines

    def spaced(self, lines):
        """The lines with more or fewer spaces between the tokens, as a text."""
        return "\n".join("".join(self.spaces(line)) for line in lines)

    def spaces(self, line):
        tokens = line.split(" ")
        yield " " * self.pick((0, 0, 1, 5))
        for left, right in zip(tokens, tokens[1:] + [""]):
            yield left
            # Some tokens would grow together.
            apart = left[-1:].isalpha() and right[:1].isalpha() or left[-1:].isdigit() and right[:1].isdigit()
            apart = apart or left in ("=", "<", ">", "!") and right[:1] == "=" or left == "-" or left[-1:].isspace()
            yield " " * (self.pick((1, 1, 2)) if apart else self.pick((0, 0, 1, 3)))

    def item(self):
        return self.pick((None, 0, 1, -1, 2, 7, -12, 10 ** 30 - 1, "", "a", "ab", "zzz", 10 ** 35))

    def answer(self):
        form = self.random.randrange(10)
        if form < 4:
            return self.item()
        if form < 8:
            return [self.item() for _ in range(self.pick((0, 1, 1, 2, 2, 3, 6, 10)))]
        kinds = CLASSES + ("Strange",)
        return ("raises", self.pick(kinds), self.pick((None, None) + kinds))


SHORT_CALLS = ("f()", "g(1)", "h()")


class ShortDice:
    """Makes short tests that ask much about few calls, so that all parts can be tried."""

    def __init__(self, random, calls):
        self.random, self.pick, self.calls = random, random.choice, SHORT_CALLS[:calls]

    def thing(self, lets):
        return self.pick(lets) if lets and self.random.random() < 0.5 else self.pick(self.calls)

    def atom(self, lets):
        thing, form = self.thing(lets), self.random.randrange(8)
        if form == 0:
            return f"len({thing}) {self.pick(('==', '>', '<'))} {self.random.randrange(3)}"
        if form == 1:
            return f"{thing} is {self.pick(('number', 'list', 'none'))}"
        if form == 2:
            return "on " + self.pick("pq")
        if form == 3:
            return f"{self.random.randrange(2)} in {thing}"
        if form == 4:
            return f"{thing}[0] == {self.random.randrange(2)}"
        return f"{thing} {self.pick(('==', '!=', '=='))} {self.random.randrange(3)}"

    def condition(self, lets):
        atoms = [self.pick(("", "", "not ")) + self.atom(lets) for _ in range(self.pick((1, 1, 2, 2, 3)))]
        return self.pick((" and ", " or ")).join(atoms)

    def rows(self):
        rows, lets = [], []
        for _ in range(self.pick((1, 2, 3, 4))):
            form = self.random.randrange(9)
            if form == 0 and len(lets) < 3:
                lets.append("xyz"[len(lets)])
                rows.append(f"let {lets[-1]} = {self.pick(self.calls)}")
            elif form == 1:
                rows.append("set " + self.pick("pq"))
            elif form == 2:
                inner = ("set p", "clear q", "fail", "return", "skip", "assert " + self.condition(lets))
                rows += ["if " + self.condition(lets), self.pick(inner), "end"]
            elif form == 3:
                inner = [self.pick(("if i == 1", "if on p")), self.pick(("set p", "break", "fail", "return")), "end"]
                rows += ["for i in " + self.thing(lets), *inner, "end"]
            elif form == 4:
                rows += ["try", "assert " + self.condition(lets), "except " + self.pick(("Failed", "Misuse", "Full", "Error")),
                         self.pick(("pass", "set p", "fail")), "end"]
            else:
                rows.append(self.pick(("assert ", "assert ", "assume ")) + self.condition(lets))
        return rows

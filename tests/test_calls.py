"""Names, constants, call texts (point 7) and paths (point 10)."""

import unittest

from whatpasses.calls import call_text, is_call, is_path
from whatpasses.errors import BadCall

KEYWORDS = (
    "and assert assume break call clear continue else end error except fail for from if in is len let list none not "
    "number on or pass raises return set skip test try under word"
).split()
NAMES = ("a", "z", "f", "put", "abcdefghijkl", "zzzzzzzzzzzz", "ands", "an", "lets", "nonee", "words", "type", "with")
NO_NAMES = (
    "", "abcdefghijklm", "a" * 500, "A", "aB", "Put", "put1", "pu t", " put", "put ", "put\n", "pu_t", "1", "-", "(",
    "put()", "`", "{", None, 0, 1, True, ("put",), ["put"], [], (), 10 ** 39, *KEYWORDS,
)
CONSTANTS = {
    "none": None, "0": 0, "1": 1, "-1": -1, "42": 42, "-100": -100, "9" * 30: 10 ** 30 - 1, "-" + "9" * 30: 1 - 10 ** 30,
    "1" + "0" * 29: 10 ** 29, '""': "", '"a"': "a", '"z"': "z", '"none"': "none", '"abcdefgh"': "abcdefgh",
}
NO_CONSTANTS = (
    True, False, 10 ** 30, -10 ** 30, 10 ** 39, 10 ** 5000, -10 ** 5000, "abcdefghi", "a" * 30, "A", "a b", "a1", " ",
    '"', "a\n", "-", "1", "`", "{", [], [1], (), (1,), ("raises", "Error", None), {},
)
NO_CONSTANT_TEXTS = (
    "", " ", "None", "NONE", "non", "nonee", "true", "True", "a", "ab", "-0", "00", "01", "-01", "007", "--1", "+1", "-",
    "1-", "- 1", "1 2", "1.0", "1_0", "1e3", "0x1", "1" * 31, "-" + "1" * 31, "0" * 30, "1" * 5000, '"', '"a', 'a"',
    "'a'", '"A"', '"a b"', '"a1"', '"a""', '""a"', '" a"', '"a" ', ' "a"', '"abcdefghi"', '"' + "a" * 500 + '"', '"""',
    "[]", "[1]", "f()", "(1)", "1)", "(", ",", '"a,b"', '"a, b"', "x=1",
)


class CallTexts(unittest.TestCase):
    def refuse(self, at, *values):
        with self.assertRaises(BadCall) as caught:
            call_text(*values)
        self.assertEqual(caught.exception.at, at)
        self.assertNotIsInstance(caught.exception.at, bool)

    def test_names(self):
        for name in NAMES:
            self.assertEqual(call_text(name), name + "()")
            self.assertEqual(call_text(name, 1), name + "(1)")
        self.assertEqual(call_text(name="put"), "put()")

    def test_wrong_names(self):
        self.assertEqual(len(KEYWORDS), 34)
        for name in NO_NAMES:
            self.refuse(-1, name)
            self.refuse(-1, name, 1, "ab")
            self.refuse(-1, name, True, [], 1, 2, 3)

    def test_constants(self):
        for text, value in CONSTANTS.items():
            self.assertEqual(call_text("f", value), "f(" + text + ")")
            for other_text, other in CONSTANTS.items():
                self.assertEqual(call_text("f", value, other), "f(" + text + ", " + other_text + ")")
                self.assertEqual(call_text("f", other, 7, value), "f(" + other_text + ", 7, " + text + ")")

    def test_the_example(self):
        self.assertEqual(call_text("put", "ab", -3), 'put("ab", -3)')

    def test_words_of_up_to_eight_letters(self):
        for length in range(32):
            if length <= 8:
                self.assertEqual(call_text("f", "w" * length), 'f("' + "w" * length + '")')
            else:
                self.refuse(0, "f", "w" * length)

    def test_numbers_of_up_to_thirty_digits(self):
        for length in range(1, 45):
            number = int("9" * length)
            if length <= 30:
                self.assertEqual(call_text("f", number, -number), "f(" + "9" * length + ", -" + "9" * length + ")")
            else:
                self.refuse(0, "f", number)
                self.refuse(1, "f", 0, -number)

    def test_values_that_are_no_constants(self):
        for value in NO_CONSTANTS:
            self.refuse(0, "f", value)
            self.refuse(0, "f", value, 1, "ab")
            self.refuse(0, "f", value, value, value, value)
            self.refuse(1, "f", None, value)
            self.refuse(1, "f", None, value, value)
            self.refuse(2, "f", 1, "ab", value)
            self.refuse(2, "f", 1, "ab", value, 4)
            self.refuse(3, "f", 1, "ab", None, value)

    def test_more_than_three_values(self):
        self.assertEqual(call_text("f", 1, 2, 3), "f(1, 2, 3)")
        self.refuse(3, "f", 1, 2, 3, 4)
        self.refuse(3, "f", 1, 2, 3, 4, 5, True)
        self.refuse(3, "f", *range(100))
        self.refuse(0, "f", True, 2, 3, 4)
        self.refuse(2, "f", 1, 2, [], 4)

    def test_nothing_is_changed(self):
        value = [1]
        self.refuse(0, "f", value)
        self.assertEqual(value, [1])


class IsCall(unittest.TestCase):
    def test_what_call_text_writes(self):
        for name in NAMES:
            self.assertIs(is_call(call_text(name)), True)
        for one in CONSTANTS.values():
            for other in CONSTANTS.values():
                self.assertIs(is_call(call_text("f", one)), True)
                self.assertIs(is_call(call_text("f", one, other)), True)
                self.assertIs(is_call(call_text("f", one, None, other)), True)
        self.assertIs(is_call(thing="f()"), True)

    def test_wrong_names(self):
        for name in NO_NAMES:
            if isinstance(name, str):
                self.assertIs(is_call(name + "()"), False)
                self.assertIs(is_call(name + "(1)"), False)

    def test_wrong_constants(self):
        for text in NO_CONSTANT_TEXTS:
            self.assertIs(is_call("f(1, " + text + ")"), False, text)
            self.assertIs(is_call("f(" + text + ", 1)"), False, text)
            self.assertIs(is_call("f(1, " + text + ', "ab")'), False, text)
            if text != "":
                self.assertIs(is_call("f(" + text + ")"), False, text)

    def test_each_character(self):
        for character in map(chr, range(32, 127)):
            letter, digit = "a" <= character <= "z", "0" <= character <= "9"
            self.assertIs(is_call(character + "()"), letter)
            self.assertIs(is_call("q" + character + "()"), letter)
            self.assertIs(is_call("f(" + character + ")"), digit)
            self.assertIs(is_call("f(1" + character + ")"), digit)
            self.assertIs(is_call("f(1" + character + "2)"), digit)
            self.assertIs(is_call("f(" + character + "1)"), "1" <= character <= "9" or character == "-")
            self.assertIs(is_call('f("' + character + '")'), letter)
            self.assertIs(is_call('f("a' + character + 'b")'), letter)
            self.assertIs(is_call("f()" + character), False)

    def test_more_than_three_constants(self):
        self.assertIs(is_call("f(1, 2, 3)"), True)
        self.assertIs(is_call("f(1, 2, 3, 4)"), False)
        self.assertIs(is_call("f(none, none, none, none, none)"), False)

    def test_other_spaces(self):
        for text in (" f()", "f() ", "f ()", "f( )", "f(1 )", "f( 1)", "f(1,2)", "f(1 ,2)", "f(1 , 2)", "f(1,  2)",
                     "f(1, 2, )", "f(1,)", "f(, 1)", "f(,)", "f(, )", "f(1,\n2)", "f()\n", "f(\n)", "f(- 1)", "fo o()"):
            self.assertIs(is_call(text), False, text)

    def test_other_forms(self):
        for text in ("", "f", "(", ")", "()", "(1)", "f(", "f)", "f(1", "f1)", "f())", "f(()", "f()()", "f()f()",
                     "f(g())", "f(g(1))", "f[1]", "f{}", "f(1, 2", "f(1), 2)", "f((1))", "f(1; 2)", "f.g()", "1()"):
            self.assertIs(is_call(text), False, text)

    def test_what_is_no_string(self):
        for thing in (None, 0, 1, True, False, [], ["f()"], ("f()",), (), [["f()"]], {}, {"f()": 1}, 10 ** 39):
            self.assertIs(is_call(thing), False)


class Paths(unittest.TestCase):
    wrong = ("f", "f(1,2)", "", "F()", "if()", None, 1, True, ("f()",), ["f()"], (), [])

    def test_one_call(self):
        for path in (("f()",), ('put("ab", -3)',), ("f(none)",)):
            self.assertIs(is_path(path), True)
            self.assertIs(is_path(path, ageing=False), True)
            self.assertIs(is_path(path, ageing=True), True)
        self.assertIs(is_path(ageing=True, thing=("f()",)), True)

    def test_several_calls(self):
        for length in range(2, 40):
            path = ("f()", "g(1)") * (length // 2) + ("h()",) * (length % 2)
            self.assertEqual(len(path), length)
            self.assertIs(is_path(path), False)
            self.assertIs(is_path(path, ageing=False), False)
            self.assertIs(is_path(path, ageing=True), True)

    def test_none(self):
        self.assertIs(is_path(()), False)
        self.assertIs(is_path((), ageing=False), False)
        self.assertIs(is_path((), ageing=True), False)

    def test_one_wrong_entry(self):
        for wrong in self.wrong:
            self.assertIs(is_path((wrong,)), False)
            self.assertIs(is_path((wrong,), ageing=True), False)
            for place in range(4):
                path = ("f()", "g()", "h()")
                self.assertIs(is_path((*path[:place], wrong, *path[place:]), ageing=True), False)

    def test_what_is_no_tuple(self):
        for thing in (["f()"], ["f()", "f()"], [], "f()", "", None, 0, 1, True, False, {}, {"f()": 1}, [("f()",)]):
            self.assertIs(is_path(thing), False)
            self.assertIs(is_path(thing, ageing=True), False)
        self.assertIs(is_path((("f()",),), ageing=True), False)

    def test_ageing_is_passed_by_name_only(self):
        with self.assertRaises(TypeError):
            is_path(("f()",), True)


if __name__ == "__main__":
    unittest.main()

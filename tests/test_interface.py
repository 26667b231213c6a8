"""The names, arguments and places of the interface, for the modules that are there."""

import importlib
import inspect
import unittest

FUNCTIONS = {
    "answers": {"is_item": "(thing)", "is_answer": "(thing)", "weight": "(answer)", "ascending": "(family, *answers)"},
    "calls": {"call_text": "(name, *values)", "is_call": "(thing)", "is_path": "(thing, *, ageing=False)"},
    "runs": {"run": "(test, part)", "trace": "(test, part)"},
    "finding": {"find": "(demands, *, ageing=False)", "ways": "(tests, *, ageing=False)"},
    "trees": {
        "is_tree": "(demands, thing, *, ageing=False)", "is_certificate": "(demands, thing, *, ageing=False)",
    },
    "judging": {
        "judge": "(suite, test, *, ageing=False)", "forces": "(suite, test, *, ageing=False)",
        "wrong_parts": "(suite, test, *, ageing=False, limit=None)",
    },
    "checks": {
        "check": "(suite, name, line, *, ageing=False)", "all_checks": "(suite, *, ageing=False)",
        "listing": "(suite, *, ageing=False)",
    },
    "comparing": {"compare": "(one, other, *, ageing=False)"},
    "choosing": {
        "fewest": "(base, pool, wishes, *, ageing=False)", "fewest_to_keep": "(suite, *, ageing=False)",
    },
}
CLASSES = {
    "families": {
        "Family": {
            "__init__": "(self, pairs)", "names": "(self)", "parent": "(self, name)", "under": "(self, one, other)",
            "up": "(self, name)", "__contains__": "(self, x)", "__len__": "(self)", "__eq__": "(self, other)",
            "__add__": "(self, other)", "plain": "()",
        },
    },
    "reading": {
        "Test": {
            "read": "(cls, text, family)", "calls": "(self)", "checks": "(self)", "__len__": "(self)",
            "__getitem__": "(self, at)", "__str__": "(self)", "__eq__": "(self, other)", "softened": "(self, line)",
            "stopped": "(self, line)", "biting": "(self, line)",
        },
    },
    "parts": {
        "Part": {
            "__init__": "(self, entries=(), *, ageing=False)", "entries": "(self)", "weight": "(self)", "__len__": "(self)",
            "__eq__": "(self, other)", "answer": "(self, *calls)", "__call__": "(self, call, before=())",
            "__or__": "(self, other)", "steady": "(answers)",
        },
    },
    "runs": {"End": {"__bool__": "(self)", "__eq__": "(self, other)"}},
    "suites": {
        "Suite": {
            "__init__": "(self, family, *tests)", "read": "(cls, text)", "names": "(self)", "named": "(self, name)",
            "__len__": "(self)", "__getitem__": "(self, at)", "__iter__": "(self)", "__str__": "(self)",
            "__eq__": "(self, other)", "__contains__": "(self, x)", "__and__": "(self, other)",
        },
    },
    "surveys": {
        "Survey": {
            "__init__": "(self, tests)", "calls": "(self)", "answers": "(self, call)", "least": "(self, call, answer)",
            "alike": "(self, call, one, other)",
        },
    },
    "finding": {"Verdict": {"__bool__": "(self)", "part": "(self)", "weight": "(self)"}},
    "checks": {"Check": {"__bool__": "(self)"}},
    "comparing": {"Comparison": {"__bool__": "(self)"}},
    "choosing": {"Choice": {"__bool__": "(self)", "__len__": "(self)"}},
    "desks": {
        "Deed": {"done": "(self, suite)", "__str__": "(self)"},
        "Add": {"__init__": "(self, test)", "done": "(self, suite)", "__str__": "(self)"},
        "Drop": {"__init__": "(self, name)", "done": "(self, suite)", "__str__": "(self)"},
        "Soften": {"__init__": "(self, name, line)", "done": "(self, suite)", "__str__": "(self)"},
        "Swap": {"__init__": "(self, name, test)", "done": "(self, suite)", "__str__": "(self)"},
        "Desk": {
            "__init__": "(self, suite)", "suite": "(self)", "depth": "(self)", "run": "(self, *deeds)",
            "trial": "(self, *deeds)", "undo": "(self)",
        },
    },
}
PROPERTIES = {
    ("Part", "entries"), ("Part", "weight"), ("Verdict", "part"), ("Verdict", "weight"), ("Desk", "suite"),
    ("Desk", "depth"),
}
CLASS_METHODS = {("Test", "read"), ("Suite", "read")}


def signature(thing):
    if isinstance(thing, (staticmethod, classmethod)):
        thing = thing.__func__
    return str(inspect.signature(thing.fget if isinstance(thing, property) else thing))


class Interface(unittest.TestCase):
    def test_functions(self):
        for module, functions in FUNCTIONS.items():
            for name, parameters in functions.items():
                function = getattr(importlib.import_module("whatpasses." + module), name)
                self.assertEqual(function.__module__, "whatpasses." + module)
                self.assertTrue(inspect.isfunction(function))
                self.assertEqual(signature(function), parameters, name)

    def test_classes(self):
        for module, classes in CLASSES.items():
            for name, methods in classes.items():
                found = getattr(importlib.import_module("whatpasses." + module), name)
                self.assertEqual(found.__module__, "whatpasses." + module)
                for method, parameters in methods.items():
                    # Only what stands in the class itself counts.
                    member = vars(found)[method]
                    self.assertEqual(signature(member), parameters, method)
                    self.assertEqual(isinstance(member, property), (name, method) in PROPERTIES)
                    self.assertEqual(isinstance(member, classmethod), (name, method) in CLASS_METHODS)


if __name__ == "__main__":
    unittest.main()

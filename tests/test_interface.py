"""The names, arguments and places of the interface, for the modules that are there."""

import importlib
import inspect
import unittest

FUNCTIONS = {
    "answers": {"is_item": "(thing)", "is_answer": "(thing)", "weight": "(answer)", "ascending": "(family, *answers)"},
    "calls": {"call_text": "(name, *values)", "is_call": "(thing)", "is_path": "(thing, *, ageing=False)"},
}
CLASSES = {
    "families": {
        "Family": {
            "__init__": "(self, pairs)", "names": "(self)", "parent": "(self, name)", "under": "(self, one, other)",
            "up": "(self, name)", "__contains__": "(self, x)", "__len__": "(self)", "__eq__": "(self, other)",
            "__add__": "(self, other)", "plain": "()",
        },
    },
}


def signature(thing):
    return str(inspect.signature(thing.__func__ if isinstance(thing, staticmethod) else thing))


class Interface(unittest.TestCase):
    def test_functions(self):
        for module, functions in FUNCTIONS.items():
            for name, parameters in functions.items():
                function = getattr(importlib.import_module("whatpasses." + module), name)
                self.assertEqual(function.__module__, "whatpasses." + module)
                self.assertTrue(inspect.isfunction(function))
                self.assertEqual(signature(function), parameters, name)

    def test_classes(self):
        for module, classes in CLASSES.items():
            for name, methods in classes.items():
                found = getattr(importlib.import_module("whatpasses." + module), name)
                self.assertEqual(found.__module__, "whatpasses." + module)
                for method, parameters in methods.items():
                    # Only what stands in the class itself counts.
                    self.assertEqual(signature(vars(found)[method]), parameters, method)


if __name__ == "__main__":
    unittest.main()

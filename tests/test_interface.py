"""The interface: what stands under the headings that have landed."""

import importlib
import inspect
import unittest

ERRORS = {
    "BadThing": ("thing",), "BadText": ("line", "column"), "BadProgram": ("place", "why"), "BadUnit": ("name", "why"),
    "BadWitness": ("block", "why"), "BadForm": ("thing",), "BadColours": ("name", "why"), "BadLink": ("found",),
}
FUNCTIONS = {
    "words": {"word_of": ["number"], "signed": ["word"], "apply": ["kind", "a", "b"]},
    "reader": {"read_module": ["text"]},
    "checker": {"check_module": ["tree", "headers"], "header_of": ["tree", "headers"]},
    "meaning": {"mean": ["modules", "inputs", "limit", "most"]},
}


class InterfaceTest(unittest.TestCase):
    def test_errors(self):
        errors = importlib.import_module("trueimage.errors")
        self.assertEqual(errors.ImageError.__bases__, (Exception,))
        for name, params in ERRORS.items():
            error = getattr(errors, name)
            self.assertEqual(error.__bases__, (errors.ImageError,))
            self.assertEqual(list(inspect.signature(error).parameters), list(params))
            made = error(*range(len(params)))
            self.assertEqual([getattr(made, param) for param in params], list(range(len(params))))
            with self.assertRaises(errors.ImageError):
                raise made

    def test_functions(self):
        for file, functions in FUNCTIONS.items():
            module = importlib.import_module("trueimage." + file)
            for name, params in functions.items():
                function = getattr(module, name)
                self.assertEqual(function.__module__, "trueimage." + file)
                self.assertEqual(list(inspect.signature(function).parameters), params)


if __name__ == "__main__":
    unittest.main()

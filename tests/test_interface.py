"""The interface: what stands under its headings."""

import importlib
import inspect
import unittest

ERRORS = {
    "BadThing": ("thing",), "BadText": ("line", "column"), "BadProgram": ("place", "why"), "BadUnit": ("name", "why"),
    "BadWitness": ("block", "why"), "BadForm": ("thing",), "BadColours": ("name", "why"), "BadLink": ("found",),
}
FUNCTIONS = {
    "words": {"word_of": ["number"], "signed": ["word"], "apply": ["kind", "a", "b"]},
    "reader": {"read_module": ["text"]},
    "checker": {"check_module": ["tree", "headers"], "header_of": ["tree", "headers"]},
    "meaning": {"mean": ["modules", "inputs", "limit", "most"]},
    "middle": {"wrong_function": ["function"]},
    "units": {"check_unit": ["unit"], "wrong_together": ["units"]},
    "lowering": {"lower_module": ["module"]},
    "witness": {"check_change": ["old", "new", "witness"], "is_same_by": ["old", "new", "witness"], "factor_of": ["new", "witness"]},
    "optimising": {"pass_of": ["name", "function"], "optimised": ["function", "names"], "optimised_unit": ["unit", "names"]},
    "inlining": {"placed": ["unit", "name", "at", "number"], "placed_small": ["unit", "many"], "unit_with_tails": ["unit"]},
    "lowcode": {"low_gives": ["row"], "low_uses": ["row"], "low_hands": ["end"], "low_end_uses": ["end"]},
    "choosing": {"chosen": ["function"]},
    "lives": {"lives": ["blocks"], "is_table": ["blocks", "table"]},
    "colours": {
        "colours_of": ["function"], "colours_within": ["function", "many"], "most_alive": ["function"], "spills_in": ["colouring"],
    },
    "colourcheck": {"wrong_colours": ["function", "colouring"]},
    "moves": {"moves_of": ["pairs"], "fewest_moves": ["pairs"]},
    "emitrows": {"lines_of": ["function", "colouring"]},
    "forms": {"encode": ["instruction"], "decode": ["word"]},
    "shortlines": {"same_lines": ["old", "new"], "shortened": ["lines"]},
    "assembling": {"long_branches": ["lines"], "assembled": ["lines"]},
    "objects": {"object_of": ["unit", "colourings"], "given_by": ["thing"]},
    "whole": {"modules_of": ["texts"], "built": ["texts", "choice", "limit"]},
    "runs": {"run": ["units", "inputs", "limit", "most"]},
    "lowruns": {"run_low": ["units", "inputs", "limit", "most"]},
    "coalescing": {"moves_in": ["function", "colouring"], "registers_in": ["colouring"]},
    "listing": {
        "instruction_text": ["instruction"], "instruction_by": ["text"], "word_text": ["word"], "listing": ["words", "base"],
    },
    "machine": {"run_image": ["image", "inputs", "most"]},
    "readymachine": {"run_ready": ["image", "inputs", "most"]},
    "objectforms": {"is_object": ["thing"]},
    "codecheck": {"wrong_code": ["thing", "name"], "wrong_object": ["thing"]},
    "objecttexts": {"object_text": ["thing"], "object_by": ["text"]},
    # The document calls what image_of is handed bytes, which is the name of a builtin.
    "imagebytes": {"image_bytes": ["image"], "image_of": ["numbers"]},
    "debugging": {
        "trail": ["image", "inputs", "most"], "counts": ["image", "inputs", "most"], "stops_at": ["image", "inputs", "place", "most"],
        "open_calls": ["image", "inputs", "steps"], "name_at": ["image", "address"], "word_told": ["image", "inputs", "steps", "name", "at"],
        "deepest": ["image", "inputs", "most"], "image_listing": ["image"],
    },
    "linking": {
        "taken": ["objects", "archives"], "unlinked": ["objects"], "stack_needed": ["objects", "limit"],
        "link": ["objects", "archives", "limit", "base"], "data_start": ["image"], "stack_start": ["image"],
    },
}
# For each class its methods with their params, and the attributes that are set when it is created.
CLASSES = {
    "machine": ("Machine", ["image", "inputs"], {"step": [], "go": ["most"], "field_at": ["address"]}),
    "readymachine": ("ReadyMachine", ["image", "inputs"], {"step": [], "go": ["most"], "field_at": ["address"]}),
}
ATTRIBUTES = ("pc", "registers", "outputs", "steps", "ended")
DEFAULTS = {"object_of": {"colourings": None}, "link": {"base": 4096}}


class InterfaceTest(unittest.TestCase):
    def test_errors(self):
        errors = importlib.import_module("trueimage.errors")
        self.assertEqual(errors.ImageError.__bases__, (Exception,))
        for name, params in ERRORS.items():
            error = getattr(errors, name)
            self.assertEqual(error.__bases__, (errors.ImageError,))
            self.assertEqual(list(inspect.signature(error).parameters), list(params))
            made = error(*range(len(params)))
            self.assertEqual([getattr(made, param) for param in params], list(range(len(params))))
            with self.assertRaises(errors.ImageError):
                raise made

    def test_functions(self):
        for file, functions in FUNCTIONS.items():
            module = importlib.import_module("trueimage." + file)
            for name, params in functions.items():
                function = getattr(module, name)
                self.assertEqual(function.__module__, "trueimage." + file)
                told = inspect.signature(function).parameters
                self.assertEqual(list(told), params)
                defaults = {param: told[param].default for param in params if told[param].default is not inspect.Parameter.empty}
                self.assertEqual(defaults, DEFAULTS.get(name, {}))

    def test_classes(self):
        image = ((115,), (), 0, 1, (None,), (), (), 8, 4096)
        for file, (name, params, methods) in CLASSES.items():
            kind = getattr(importlib.import_module("trueimage." + file), name)
            self.assertEqual(kind.__module__, "trueimage." + file)
            self.assertEqual(list(inspect.signature(kind).parameters), params)
            for method, told in methods.items():
                # Each one is defined in the class itself.
                self.assertEqual(list(inspect.signature(vars(kind)[method]).parameters), ["self"] + told)
            made = kind(image, ())
            for attribute in ATTRIBUTES:
                self.assertIn(attribute, vars(made))


if __name__ == "__main__":
    unittest.main()

"""[63]: random programs through all of the parts."""

import random
import unittest

from machines import TestMachine
from middlefunctions import CALLEES, GLOBALS, WORDS, random_unit
from programs import Teller
from randomcolours import random_colouring
from splits import random_modules
from trueimage.choosing import chosen
from trueimage.codecheck import wrong_object
from trueimage.colours import colours_within
from trueimage.debugging import deepest
from trueimage.imagebytes import image_bytes, image_of
from trueimage.inlining import placed_small, unit_with_tails
from trueimage.linking import link, stack_start
from trueimage.lowering import lower_module
from trueimage.lowruns import run_low
from trueimage.machine import run_image
from trueimage.meaning import mean
from trueimage.objectforms import is_object
from trueimage.objects import object_of
from trueimage.objecttexts import object_by, object_text
from trueimage.optimising import optimised_unit
from trueimage.readymachine import run_ready
from trueimage.runs import run
from trueimage.whole import modules_of

PASSES = ("fold", "params", "again", "dead", "loops", "join", "thread")
INPUTS = (0, 1, 2, 3, 5, 2147483648, 4294967295)


class EverythingTest(unittest.TestCase):
    def object_made(self, unit, numbers):
        """An object of a unit by some right colouring, written and read again."""
        form = numbers.randrange(3)
        colourings = None
        if form == 1:
            colourings = {function[0]: colours_within(chosen(function), numbers.randrange(1, 13)) for function in unit[2]}
        elif form == 2:
            colourings = {function[0]: random_colouring(chosen(function), numbers, words=600) for function in unit[2] if numbers.random() < 0.7}
        thing = object_of(unit, colourings)
        self.assertTrue(is_object(thing))
        self.assertIsNone(wrong_object(thing))
        self.assertEqual(object_by(object_text(thing)), thing)
        return object_by(object_text(thing))

    def image_made(self, things, limit, numbers):
        """An image of objects, some of them in archives, written and read again."""
        things = list(things)
        numbers.shuffle(things)
        cut = numbers.randrange(len(things) + 1)
        middle = numbers.randrange(cut, len(things) + 1)
        image = link(things[:cut], [("one", things[cut:middle]), ("two", tuple(things[middle:]))], limit, numbers.choice((0, 16, 4096, 2 ** 28)))
        self.assertEqual(image_of(image_bytes(image)), image)
        return image_of(image_bytes(image))

    def changed(self, unit, numbers):
        """A unit after some calls put in place, tails and passes, and how many steps come at most for one."""
        many = numbers.choice((0, 0, 1, 4))
        unit = placed_small(unit, many)
        if numbers.random() < 0.5:
            unit = unit_with_tails(unit)
        unit, factor = optimised_unit(unit, tuple(numbers.choice(PASSES) for _ in range(numbers.choice((0, 1, 4)))))
        return unit, (1 + many) * factor

    def look(self, image, inputs, expected, most):
        """Both machines do what is expected, in so many steps, and within the stack that the image tells."""
        told = run_image(image, inputs, most + 1)
        self.assertEqual(told[:2], expected)
        self.assertLessEqual(told[2], most)
        self.assertEqual(run_ready(image, inputs, most + 1), told)
        machine = TestMachine(image, inputs)
        self.assertEqual(machine.run(most + 1), told)
        self.assertGreaterEqual(machine.least, stack_start(image))
        used = deepest(image, inputs, most + 1)
        self.assertEqual(used, machine.end - machine.least)
        self.assertLessEqual(used, image[2])

    def test_random_programs(self):
        endings = set()
        for seed in range(1000, 1140):
            numbers = random.Random(seed)
            texts, variables, functions = random_modules(seed)
            modules = modules_of(texts)
            made = [self.changed(lower_module(module), numbers) for module in modules]
            units = [unit for unit, _ in made]
            factor = max(many for _, many in made)
            things = [self.object_made(unit, numbers) for unit in units]
            low = [(unit[0], unit[1], tuple(chosen(function) for function in unit[2])) for unit in units]
            for many in (0, 3, 9):
                inputs = tuple(numbers.choice(INPUTS) for _ in range(many))
                limit = numbers.choice((1, 2, 3, 20, 40))
                outputs, ending, _ = Teller(variables, functions, inputs, limit, 1500).run()
                if ending is None:
                    continue
                expected = (outputs, ending)
                told = mean(modules, inputs, limit, 100000)
                self.assertEqual(told[:2], expected)
                middle = run(units, inputs, limit, 10 ** 7)
                self.assertEqual(middle[:2], expected)
                self.assertLessEqual(middle[2], factor * (10 * told[2] + 10))
                rows = run_low(low, inputs, limit, 10 ** 7)
                self.assertEqual(rows[:2], expected)
                self.assertLessEqual(rows[2], 8 * middle[2] + 8)
                image = self.image_made(things, limit, numbers)
                self.look(image, inputs, expected, image[7] * (middle[2] + 1))
                endings.add(ending[1] if ending[0] == "trap" else "answer")
        self.assertEqual(sorted(endings), ["answer", "bounds", "input", "stack", "told", "zero"])

    def test_random_units(self):
        for seed in range(1000, 1120):
            numbers = random.Random(seed)
            whole = random_unit(seed, numbers.choice((2, 5, 9)), tame=True)
            # Main in one unit, what it calls in another one, globals in either.
            main = whole[2][-1]
            wants = [(name, kind, len(blocks[0][0])) for name, kind, _, blocks in CALLEES] + [(name, kind, -1) for name, kind, _, _ in GLOBALS[:2]]
            one = ("one", GLOBALS[2:], (main,), tuple(sorted(wants)))
            two = ("two", GLOBALS[:2], CALLEES, ())
            units = [one, two]
            things = [self.object_made(unit, numbers) for unit in units]
            for _ in range(3):
                inputs = tuple(numbers.choice(WORDS) for _ in range(numbers.choice((0, 3, 9))))
                limit = numbers.choice((1, 2, 3, 20))
                outputs, ending, steps = run(units, inputs, limit, 3000)
                if ending[0] not in ("on", "astray"):
                    image = self.image_made(things, limit, numbers)
                    self.look(image, inputs, (outputs, ending), image[7] * (steps + 1))


if __name__ == "__main__":
    unittest.main()

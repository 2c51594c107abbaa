"""[11], [13] to [15]: random programs do what a plain recursive telling of them says."""

import random
import unittest

from programs import Teller, random_program
from support import checked
from trueimage.meaning import mean

SEEDS = 400
MOST = 3000


class RandomProgramsTest(unittest.TestCase):
    def test_random_programs(self):
        endings = {}
        for seed in range(SEEDS):
            text, variables, functions = random_program(seed)
            modules = checked(text)
            numbers = random.Random(seed)
            for many in (0, 2, 9):
                inputs = tuple(numbers.choice((0, 1, 2, 3, 2147483648, 4294967295)) for _ in range(many))
                limit = numbers.choice((1, 2, 3, 20))
                outputs, ending, steps = Teller(variables, functions, inputs, limit, MOST).run()
                self.look(modules, inputs, limit, outputs, ending, steps, text)
                key = "on" if ending is None else ending[1] if ending[0] == "trap" else "answer"
                endings[key] = endings.get(key, 0) + 1
        # Every ending has come about.
        self.assertEqual(sorted(endings), ["answer", "bounds", "input", "on", "stack", "told", "zero"])

    def look(self, modules, inputs, limit, outputs, ending, steps, text):
        if ending is None:
            told = mean(modules, inputs, limit, MOST)
            self.assertEqual(told[1], ("on",), text)
            many = min(len(told[0]), len(outputs))
            self.assertEqual(told[0][:many], outputs[:many], text)
            self.assertGreaterEqual(told[2], MOST)
        else:
            told = mean(modules, inputs, limit, 4 * steps + 1)
            self.assertEqual(told[:2], (outputs, ending), text)
            self.assertGreaterEqual(told[2], steps, text)
            self.assertLessEqual(told[2], 4 * steps, text)


if __name__ == "__main__":
    unittest.main()

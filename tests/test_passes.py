"""[25], [30]: each pass does the same by a witness that is let by; and whatever the checker lets by does the same."""

import random
import unittest

from changes import changed_function, changed_witness
from middlefunctions import WORDS, random_unit
from middleruns import run_middle
from programs import random_program
from support import GREATEST_TWO, checked
from trueimage.errors import BadThing, BadUnit
from trueimage.lowering import lower_module
from trueimage.middle import wrong_function
from trueimage.optimising import optimised, optimised_unit, pass_of
from trueimage.units import check_unit
from trueimage.witness import check_change, factor_of, is_same_by

NAMES = ("fold", "params", "again", "dead", "loops", "join", "thread")
AT = ("m", 1, 1)


def runs_of(unit, numbers, many, most=3000):
    """Some runs of a unit that come to an end and never go astray: inputs, limit, and what the run does."""
    found = []
    for _ in range(many):
        inputs = tuple(numbers.choice(WORDS) for _ in range(numbers.choice((0, 1, 3, 9))))
        limit = numbers.choice((1, 2, 3, 20))
        told = run_middle([unit], inputs, limit, most)
        if told[1][0] not in ("on", "astray"):
            found.append((inputs, limit, told))
    return found


def with_main(unit, function):
    """The unit with another last function."""
    return unit[:2] + (unit[2][:-1] + (function,),) + unit[3:]


def lowered(seed):
    return lower_module(checked(random_program(seed)[0])[0])


class PassesTest(unittest.TestCase):
    def look(self, unit, runs, name):
        """A pass over the last function of a unit: the unit with it, and the same runs of that."""
        old = unit[2][-1]
        new, witness = pass_of(name, old)
        self.assertIsNone(check_change(old, new, witness))
        unit = with_main(unit, new)
        check_unit(unit)
        factor = factor_of(new, witness)
        found = []
        for inputs, limit, told in runs:
            again = run_middle([unit], inputs, limit, factor * told[2] + factor + 1)
            self.assertEqual(again[:2], told[:2], (name, old, new))
            self.assertLessEqual(again[2], factor * told[2] + factor)
            found.append((inputs, limit, again))
        return unit, found

    def test_passes_in_random_rows(self):
        unlike = dict.fromkeys(NAMES, 0)
        for seed in range(250):
            numbers = random.Random(seed)
            unit = lowered(seed) if seed % 4 == 0 else random_unit(seed, most_blocks=numbers.choice((2, 5, 9)), tame=True)
            runs = runs_of(unit, numbers, 4)
            for _ in range(7):
                name = numbers.choice(NAMES)
                before = unit[2][-1]
                unit, runs = self.look(unit, runs, name)
                unlike[name] += unit[2][-1] != before
        # Each pass has changed something, mostly more often than this.
        self.assertGreater(min(unlike.values()), 10, unlike)

    def test_each_pass_does_what_it_is_for(self):
        rows = (("const", 1, 2, AT), ("const", 2, 3, AT), ("op", 3, "mul", 1, 2, AT), ("check", 3, "zero", AT), ("op", 4, "add", 0, 3, AT))
        folded, _ = pass_of("fold", ("f", "int(int)", (), (((0,), rows, ("return", 4)),)))
        self.assertIn(("const", 3, 6, AT), folded[3][0][1])
        self.assertNotIn("check", [row[0] for row in folded[3][0][1]])
        branch = ((0,), (("const", 1, 0, AT),), ("if", 1, 1, (), 2, ()))
        ends = (((), (), ("return", 0)), ((), (("out", 0, AT),), ("return", 0)))
        self.assertEqual(len(pass_of("fold", ("f", "int(int)", (), (branch,) + ends))[0][3]), 2)
        handed = (((0,), (), ("if", 0, 1, (0,), 1, (0,))), ((1,), (("out", 1, AT),), ("return", 1)))
        self.assertEqual(pass_of("params", ("f", "int(int)", (), handed))[0][3][1][0], ())
        again = (("op", 1, "mul", 0, 0, AT), ("op", 2, "mul", 0, 0, AT), ("op", 3, "xor", 1, 2, AT), ("out", 1, AT), ("out", 2, AT))
        self.assertEqual(len(pass_of("again", ("f", "int(int)", (), (((0,), again, ("return", 0)),)))[0][3][0][1]), 4)
        loads = (("address", 1, "g", AT), ("load", 2, 1, 0, AT), ("load", 3, 1, 0, AT), ("op", 4, "mul", 2, 3, AT))
        self.assertEqual(len(pass_of("again", ("f", "int(int)", (), (((0,), loads, ("return", 4)),)))[0][3][0][1]), 3)
        unused = again[:2] + (("address", 5, "g", AT), ("load", 6, 5, 0, AT))
        self.assertEqual(pass_of("dead", ("f", "int(int)", (), (((0,), unused, ("return", 0)),)))[0][3][0][1], ())
        loop = (((0,), (), ("go", 1, (0,))), ((1,), (("op", 2, "mul", 0, 0, AT), ("op", 3, "sub", 1, 2, AT)), ("if", 3, 1, (3,), 2, ())),
                ((), (), ("return", 1)))
        self.assertEqual(len(pass_of("loops", ("f", "int(int)", (), loop))[0][3][0][1]), 1)
        joined = (((0,), (), ("go", 1, (0,))), ((1,), (("out", 1, AT),), ("go", 2, ())), ((), (), ("return", 1)))
        self.assertEqual(len(pass_of("join", ("f", "int(int)", (), joined))[0][3]), 1)
        empty = (((0,), (), ("if", 0, 1, (), 2, ())), ((), (), ("go", 2, ())), ((), (), ("return", 0)))
        self.assertEqual(len(pass_of("thread", ("f", "int(int)", (), empty))[0][3]), 2)

    def test_functions_that_are_hard_to_change(self):
        ring = ((0,), (), ("go", 1, ())), ((), (), ("go", 2, ())), ((), (), ("go", 1, ()))
        fails = (((0,), (("const", 1, 0, AT), ("check", 1, "told", AT), ("out", 0, AT)), ("if", 0, 1, (), 1, ())), ((), (), ("return", 0)))
        alone = (((0,), (), ("go", 1, (0,))), ((1,), (), ("go", 1, (1,))))
        lost = (((0,), (), ("return", 0)), ((), (("out", 77, AT),), ("go", 1, ())))
        twisted = (((0,), (), ("if", 0, 1, (0,), 2, (0,))), ((1,), (), ("go", 2, (1,))), ((2,), (), ("if", 2, 1, (2,), 3, ())), ((), (), ("return", 0)))
        for blocks in (ring, fails, alone, lost, twisted):
            function = ("f", "int(int)", (), blocks)
            self.assertIsNone(wrong_function(function))
            for name in NAMES:
                new, witness = pass_of(name, function)
                self.assertTrue(is_same_by(function, new, witness), (name, blocks))


class OptimisedTest(unittest.TestCase):
    def test_names_as_often_as_one_likes(self):
        for seed in range(6):
            unit = lowered(seed)
            for name in NAMES:
                # What a pass makes of its own work changes no more before long.
                function, many = optimised(unit[2][-1], (name,) * 40)
                self.assertEqual(optimised(unit[2][-1], (name,) * 4000), (function, many))
            once, _ = optimised_unit(unit, NAMES * 5)
            again, _ = optimised_unit(unit, NAMES * 300)
            check_unit(once)
            check_unit(again)

    def test_rows_of_passes(self):
        for seed in range(120):
            numbers = random.Random(seed)
            unit = lowered(seed) if seed % 2 == 0 else random_unit(seed, tame=True)
            runs = runs_of(unit, numbers, 4)
            names = tuple(numbers.choice(NAMES) for _ in range(numbers.randrange(7)))
            new, many = optimised(unit[2][-1], names)
            whole, most = optimised_unit(unit, names)
            check_unit(whole)
            self.assertEqual(whole[2][-1], new)
            self.assertEqual((whole[0], whole[1], whole[3]), (unit[0], unit[1], unit[3]))
            self.assertEqual([function[:3] for function in whole[2]], [function[:3] for function in unit[2]])
            for inputs, limit, told in runs:
                for other, factor in ((with_main(unit, new), many), (whole, most)):
                    again = run_middle([other], inputs, limit, factor * told[2] + 1)
                    self.assertEqual(again[:2], told[:2])
                    self.assertLessEqual(again[2], factor * told[2])

    def test_no_passes(self):
        unit = random_unit(3)
        self.assertEqual(optimised(unit[2][-1], ()), (unit[2][-1], 1))
        self.assertEqual(optimised_unit(unit, ()), (unit, 1))

    def test_all_passes_over_a_program(self):
        unit = lower_module(checked(GREATEST_TWO)[0])
        whole, most = optimised_unit(unit, NAMES * 3)
        steps = {}
        for other in (unit, whole):
            outputs, ending, steps[other == whole] = run_middle([other], (3, 9, 4), 9, 10000)
            self.assertEqual((outputs, ending), ((13,), ("answer", 0)))
        self.assertLess(steps[True], steps[False])
        self.assertGreater(most, 0)

    def test_wrong_names(self):
        unit = random_unit(3)
        for names in (["fold"], "fold", None, 5, ("fold", "inline"), ("",), (None,), (("fold",),), ([],), (5,), {"fold": 1}, ("fold", "dead", "DEAD")):
            for deed in (lambda: optimised(unit[2][-1], names), lambda: optimised_unit(unit, names)):
                with self.assertRaises(BadThing, msg=names):
                    deed()
        for name in ("", "inline", None, 5, ("fold",), []):
            with self.assertRaises(BadThing):
                pass_of(name, unit[2][-1])


class WhoeverMadeItTest(unittest.TestCase):
    """Random changes of new functions and witnesses: what is let by does the same on small inputs."""

    def test_random_changes(self):
        let_by = unlike = 0
        for seed in range(700):
            numbers = random.Random(seed)
            unit = random_unit(seed, most_blocks=numbers.choice((2, 3, 5)), most_rows=numbers.choice((2, 4)), tame=True)
            old = unit[2][-1]
            first = pass_of(numbers.choice(NAMES), old)
            runs = []
            for _ in range(8):
                inputs = tuple(numbers.choice((0, 0, 1, 1, 2, 3, 2 ** 32 - 1)) for _ in range(numbers.choice((0, 1, 2, 3, 6))))
                runs.append((inputs, numbers.choice((1, 2, 3, 9))))
            told = [run_middle([unit], inputs, limit, 1000) for inputs, limit in runs]
            for _ in range(25):
                new, witness = first
                for _ in range(numbers.choice((1, 1, 2, 3))):
                    if numbers.random() < 0.6:
                        new = changed_function(new, numbers)
                    else:
                        witness = changed_witness(witness, numbers, old, new)
                if is_same_by(old, new, witness):
                    let_by += 1
                    unlike += new != first[0]
                    self.assertIsNone(wrong_function(new))
                    self.look(with_main(unit, new), runs, told, factor_of(new, witness), (old, new, witness))
        self.assertGreater(let_by, 2000)
        self.assertGreater(unlike, 1000)

    def look(self, unit, runs, told, factor, change):
        try:
            check_unit(unit)
        except BadUnit:
            return
        for (inputs, limit), (outputs, ending, steps) in zip(runs, told):
            if ending[0] not in ("on", "astray"):
                again = run_middle([unit], inputs, limit, factor * steps + factor + 1)
                self.assertEqual(again[:2], (outputs, ending), change)


if __name__ == "__main__":
    unittest.main()

"""[40] to [42]: the form of chosen rows, and that they do what middle code does."""

import random
import unittest

from lowruns import run_chosen
from middlefunctions import WORDS, WORKS, random_unit
from middleruns import run_middle
from programs import random_program
from support import GREATEST_TWO, checked
from trueimage.choosing import chosen
from trueimage.inlining import placed_small, unit_with_tails
from trueimage.lowcode import low_end_uses, low_gives, low_hands, low_uses
from trueimage.lowering import lower_module
from trueimage.optimising import optimised_unit

AT = ("m", 1, 1)
NAMES = ("fold", "params", "again", "dead", "loops", "join", "thread")
# About the bounds of what fits into an instruction.
BOUNDS = (0, 1, 2, 31, 32, 33, 2046, 2047, 2048, 2049, 4095, 4096, 2 ** 31 - 1, 2 ** 31, 2 ** 32 - 2049, 2 ** 32 - 2048, 2 ** 32 - 2047, 2 ** 32 - 1)


def low_unit(unit):
    """A unit of chosen rows."""
    return (unit[0], unit[1], tuple(chosen(function) for function in unit[2]))


class PartsTest(unittest.TestCase):
    ROWS = (
        (("set", 7, 5, AT), 7, ()), (("name", 7, "g", AT), 7, ()), (("slot", 7, 0, AT), 7, ()), (("three", "add", 7, 1, 2, AT), 7, (1, 2)),
        (("three", "sub", 7, -1, 2, AT), 7, (2,)), (("three", "mul", 7, 3, 3, AT), 7, (3, 3)), (("imm", "addi", 7, 1, 5, AT), 7, (1,)),
        (("imm", "addi", 7, -1, 5, AT), 7, ()), (("load", 7, "at", 4, 8, AT), 7, (4,)), (("load", 7, "slot", 4, 8, AT), 7, ()),
        (("load", 7, "name", "g", 8, AT), 7, ()), (("store", 4, "at", 5, 8, AT), None, (4, 5)), (("store", -1, "at", 5, 8, AT), None, (5,)),
        (("store", 4, "slot", 5, 8, AT), None, (4,)), (("store", 4, "name", "g", 8, AT), None, (4,)), (("must", "bne", 2, -1, "zero", AT), None, (2,)),
        (("must", "beq", 2, 3, "zero", AT), None, (2, 3)), (("deep", 7, 0, 3, AT), 7, (0,)), (("call", 7, "f", (1, -1, 2, 1), AT), 7, (1, 2, 1)),
        (("call", 7, "f", [0], AT), 7, (0,)), (("out", 2, AT), None, (2,)), (("out", -1, AT), None, ()), (("in", 7, AT), 7, ()), (("more", 7, AT), 7, ()),
    )
    ENDS = (
        (("go", 2, (3, -1, 3)), [(2, (3, -1, 3))], (3, 3)), (("branch", "beq", 1, -1, 2, (3,), 4, ()), [(2, (3,)), (4, ())], (1, 3)),
        (("branch", "blt", 1, 2, 5, (), 5, (1, 2)), [(5, ()), (5, (1, 2))], (1, 2, 1, 2)), (("return", 6), [], (6,)), (("return", -1), [], ()),
        (("tail", "f", (1, -1, 2), AT), [], (1, 2)), (("trap", "zero", AT), [], ()),
    )

    def test_rows(self):
        for row, gives, uses in self.ROWS:
            for form in (row, list(row)):
                self.assertEqual(low_gives(form), gives)
                self.assertEqual(low_uses(form), uses)
                self.assertIsInstance(low_uses(form), tuple)

    def test_ends(self):
        for end, hands, uses in self.ENDS:
            for form in (end, list(end)):
                self.assertEqual(low_hands(form), hands)
                self.assertEqual(low_end_uses(form), uses)
                self.assertIsInstance(low_end_uses(form), tuple)


class SlotsTest(unittest.TestCase):
    """What is always beside its slot is told as a place where no word is, so it never reaches another word of the frame."""

    def rows_of(self, blocks, slots=(3, 4)):
        low = chosen(("main", "int()", slots, blocks))
        return [row for _, rows, _ in low[2] for row in rows if row[0] in ("load", "store")], low

    def test_in_one_block(self):
        for index, scale, offset, words in ((0, 1, 0, 0), (2, 1, 0, 2), (1, 2, 0, 2), (0, 1, 2, 2), (3, 1, 0, None), (0, 1, 3, None), (2 ** 32 - 1, 1, 0, None), (2 ** 32 - 1, 1, 1, 0),
                                            (2 ** 30 + 1, 1, 0, 1), (2 ** 28, 4, 1, 1), (5, 256, 255, None), (2 ** 32 - 1, 256, 255, None)):
            rows = (("address", 0, 0, AT), ("const", 1, index, AT), ("index", 2, 0, 1, scale, AT), ("load", 3, 2, offset, AT), ("store", 2, offset, 1, AT))
            told, low = self.rows_of((((), rows, ("return", 3)),))
            spots = [row[2:5] for row in told]
            self.assertEqual(spots, [("at", -1, 0) if words is None else ("slot", 0, 4 * words)] * 2)
            self.assertEqual(run_chosen([("m", (), (low,))], (), 1, 99)[1][0], "astray" if words is None else "answer")

    def test_through_blocks(self):
        at = (("const", 1, 2, AT), ("index", 2, 0, 1, 1, AT))
        handed = lambda one, other, offset: self.rows_of((
            ((), (("address", 0, 0, AT), ("address", 9, 1, AT), ("in", 8, AT)) + at, ("if", 8, 1, (one,), 2, (other,))), ((3,), (), ("go", 3, (3,))), ((4,), (), ("go", 3, (4,))),
            ((5,), (("load", 6, 5, offset, AT),), ("return", 6))))[0][0][2:5]
        # Always the same place, in its slot or beside it; and unlike places, of which nothing is known.
        self.assertEqual([handed(0, 0, 2)[0], handed(2, 2, 0)[0], handed(0, 0, 3), handed(2, 2, 1)], ["at", "at", ("at", -1, 0), ("at", -1, 0)])
        for one, other in ((0, 2), (0, 9), (2, 9)):
            self.assertNotEqual(handed(one, other, 3), ("at", -1, 0))

    def test_in_loops(self):
        blocks = (((), (("address", 0, 0, AT), ("in", 1, AT)), ("go", 1, (0,))), ((2,), (("load", 3, 2, 7, AT), ("const", 4, 1, AT), ("index", 5, 2, 4, 1, AT)), ("if", 3, 1, (5,), 1, (2,))))
        self.assertNotEqual(self.rows_of(blocks)[0][0][2:5], ("at", -1, 0))
        same = (blocks[0], (blocks[1][0], blocks[1][1], ("if", 3, 1, (2,), 1, (2,))))
        self.assertEqual(self.rows_of(same)[0][0][2:5], ("at", -1, 0))


class FormTest(unittest.TestCase):
    def look(self, function):
        """A function of chosen rows has the form that [40] tells, and each value is given ahead of its uses."""
        low = chosen(function)
        self.assertEqual(low[:2], (function[0], function[2]))
        blocks = low[2]
        self.assertEqual(len(blocks[0][0]), len(function[3][0][0]) + 1)
        given = {}
        for number, (params, rows, end) in enumerate(blocks):
            for at, value in [(-1, value) for value in params] + [(at, low_gives(row)) for at, row in enumerate(rows)]:
                if value is not None:
                    self.assertNotIn(value, given)
                    self.assertGreaterEqual(value, 0)
                    given[value] = (number, at)
            for goal, args in low_hands(end):
                self.assertTrue(0 < goal < len(blocks))
                self.assertEqual(len(args), len(blocks[goal][0]))
        come_to = {0}
        pile = [0]
        while pile:
            for goal, _ in low_hands(blocks[pile.pop()][2]):
                if goal not in come_to:
                    come_to.add(goal)
                    pile.append(goal)
        self.assertEqual(come_to, set(range(len(blocks))))
        for number, (_, rows, end) in enumerate(blocks):
            for at, row in enumerate(rows):
                for value in low_uses(row):
                    self.assertTrue(given[value][0] != number or given[value][1] < at)
            for value in low_end_uses(end):
                self.assertIn(value, given)
        return low

    def test_random_functions(self):
        for seed in range(200):
            for function in random_unit(seed, most_blocks=8)[2]:
                self.look(function)

    def test_blocks_that_cannot_be_come_to_are_left_out(self):
        function = ("f", "int(int)", (), (
            ((0,), (), ("go", 2, (0,))), ((), (("out", 99, AT),), ("go", 2, (98,))), ((1,), (), ("if", 1, 4, (), 5, ())), ((), (), ("return", 77)),
            ((), (), ("return", 0)), ((), (), ("return", 1))))
        self.assertEqual(len(self.look(function)[2]), 4)

    def test_numbers_fit(self):
        for seed in range(150):
            for _, rows, _ in [block for function in low_unit(random_unit(seed))[2] for block in function[2]]:
                for row in rows:
                    if row[0] == "imm":
                        self.assertTrue(0 <= row[4] <= 31 if row[1] in ("slli", "srli", "srai") else -2048 <= row[4] <= 2047, row)
                    if row[0] in ("load", "store") and row[2] == "at":
                        self.assertTrue(-2048 <= row[4] <= 2047, row)


class RunTest(unittest.TestCase):
    def look(self, unit, runs):
        low = low_unit(unit)
        endings = []
        for inputs, limit in runs:
            outputs, ending, steps = run_middle([unit], inputs, limit, 3000)
            if ending[0] not in ("on", "astray"):
                again = run_chosen([low], inputs, limit, 8 * steps + 9)
                self.assertEqual(again[:2], (outputs, ending), (unit[2][-1], low[2][-1]))
                self.assertLessEqual(again[2], 8 * steps + 8)
                endings.append(ending[1] if ending[0] == "trap" else "answer")
        return endings

    def random_runs(self, numbers):
        return [(tuple(numbers.choice(WORDS) for _ in range(numbers.choice((0, 2, 9)))), numbers.choice((1, 2, 3, 20))) for _ in range(4)]

    def test_random_units(self):
        endings = {}
        for seed in range(400):
            numbers = random.Random(seed)
            unit = lower_module(checked(random_program(seed)[0])[0]) if seed % 4 == 0 else random_unit(seed, numbers.choice((2, 5, 9)), tame=True)
            if numbers.random() < 0.5:
                unit = placed_small(unit, numbers.randrange(4)) if numbers.random() < 0.5 else unit_with_tails(unit)
                unit, _ = optimised_unit(unit, tuple(numbers.choice(NAMES) for _ in range(numbers.randrange(5))))
            for ending in self.look(unit, self.random_runs(numbers)):
                endings[ending] = endings.get(ending, 0) + 1
        self.assertEqual(sorted(endings), ["answer", "bounds", "input", "stack", "told", "zero"])

    def test_each_work_with_words_about_the_bounds(self):
        for kind in WORKS:
            for word in BOUNDS:
                rows = [("in", 0, AT), ("const", 1, word, AT), ("op", 2, kind, 0, 1, AT), ("op", 3, kind, 1, 0, AT), ("op", 4, kind, 1, 1, AT)]
                rows += [("out", 2, AT), ("out", 3, AT), ("out", 4, AT)]
                # Once as a word, once as a test.
                blocks = (((), tuple(rows), ("if", 2, 1, (), 2, ())), ((), (("check", 3, "told", AT),), ("return", 0)), ((), (), ("return", 4)))
                unit = ("m", (), (("main", "int()", (), blocks),), ())
                self.look(unit, [((other,), 1) for other in (0, 1, 2, 31, 2047, 2048, 2 ** 31, 2 ** 32 - 1, word)])

    def test_tests(self):
        for denials in range(4):
            for kind in ("lts", "ltu", "eq", "add"):
                rows = [("in", 0, AT), ("in", 1, AT), ("op", 2, kind, 0, 1, AT), ("const", 3, 0, AT)]
                for at in range(denials):
                    rows.append(("op", 4 + at, "eq", 3 + at if at else 2, 3, AT))
                test = 3 + denials if denials else 2
                rows.append(("check", test, "told", AT))
                blocks = (((), tuple(rows), ("if", test, 1, (), 2, ())), ((), (), ("return", 0)), ((), (), ("return", 1)))
                unit = ("m", (), (("main", "int()", (), blocks),), ())
                self.look(unit, [((a, b), 1) for a in (0, 1, 5, 2 ** 31, 2 ** 32 - 1) for b in (0, 1, 5, 2 ** 31, 2 ** 32 - 1)])

    def test_addresses_about_the_bounds(self):
        things = (("g", "int[4096]", 4096, tuple(range(4096))),)
        for what, words in (("g", 4096), (0, 256)):
            for scale in (1, 2, 3, 7, 64, 255, 256):
                for index in (0, 1, 2, 3, 15, 511, 512, 513, 4095):
                    for offset in (0, 1, 255):
                        if index * scale + offset < words:
                            rows = [("address", 0, what, AT), ("const", 1, index, AT), ("in", 2, AT), ("index", 3, 0, 1, scale, AT), ("index", 4, 0, 2, scale, AT),
                                    ("load", 5, 3, offset, AT), ("out", 5, AT), ("store", 4, offset, 1, AT), ("load", 6, 3, offset, AT), ("out", 6, AT),
                                    ("call", 7, "f", (3, 2), 1, AT), ("out", 7, AT)]
                            leaf = ("f", "int(int[])", (), (((0, 1), (("load", 2, 0, offset, AT),), ("return", 2)),))
                            unit = ("m", things, (leaf, ("main", "int()", (256,), (((), tuple(rows), ("return", 1)),))), ())
                            self.look(unit, [((index,), 2)])

    def test_told_indexes_that_are_never_come_to(self):
        for index in (3, 600, 5000, 2 ** 30, 2 ** 32 - 1):
            for what in ("g", 0):
                rows = (("address", 0, what, AT), ("const", 1, index, AT), ("const", 2, 0, AT), ("check", 2, "bounds", AT), ("index", 3, 0, 1, 5, AT),
                        ("store", 3, 1, 1, AT), ("load", 4, 3, 0, AT))
                unit = ("m", (("g", "int[3]", 3, ()),), (("main", "int()", (3,), (((), rows, ("return", 4)),)),), ())
                self.assertEqual(self.look(unit, [((), 1)]), ["bounds"])

    def test_program_of_the_document(self):
        unit = lower_module(checked(GREATEST_TWO)[0])
        self.look(unit, [((3, 9, 4), 2), ((), 2), ((3, 9, 4), 1)])
        self.assertEqual(run_chosen([low_unit(unit)], (3, 9, 4), 2, 1000)[:2], ((13,), ("answer", 0)))


if __name__ == "__main__":
    unittest.main()

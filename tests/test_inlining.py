"""[26]: calls put in place, and tails."""

import random
import unittest

from middlefunctions import WORDS, random_unit
from middleruns import run_middle
from programs import random_program
from support import checked
from trueimage.errors import BadThing
from trueimage.inlining import placed, placed_small, unit_with_tails
from trueimage.lowering import lower_module
from trueimage.units import check_unit

AT = ("m", 1, 1)
LIMITS = (1, 2, 3, 4, 5, 20)


def calls_of(unit):
    """Where calls stand: name, block and row."""
    return [
        (function[0], at, number) for function in unit[2] for at, (_, rows, _) in enumerate(function[3])
        for number, row in enumerate(rows) if row[0] == "call"
    ]


def runs_of(unit, numbers):
    found = []
    for limit in LIMITS:
        inputs = tuple(numbers.choice(WORDS) for _ in range(numbers.choice((0, 2, 9))))
        told = run_middle([unit], inputs, limit, 2000)
        if told[1][0] not in ("on", "astray"):
            found.append((inputs, limit, told))
    return found


class InliningTest(unittest.TestCase):
    def same(self, unit, runs, factor):
        check_unit(unit)
        for inputs, limit, told in runs:
            again = run_middle([unit], inputs, limit, factor * told[2] + 1)
            self.assertEqual(again[:2], told[:2])
            self.assertLessEqual(again[2], factor * told[2])

    def may_be_placed(self, unit, name, at, number):
        functions = {function[0]: function for function in unit[2]}
        row = functions[name][3][at][1][number]
        return row[2] in functions and not functions[row[2]][2]

    def test_each_call_of_random_units(self):
        count = 0
        for seed in range(260):
            numbers = random.Random(seed)
            unit = random_unit(seed, most_blocks=numbers.choice((2, 5)))
            if seed % 3 == 0:
                unit = lower_module(checked(random_program(seed)[0])[0])
            if seed % 2 == 0:
                unit = unit_with_tails(unit)
            runs = runs_of(unit, numbers)
            for name, at, number in calls_of(unit):
                if self.may_be_placed(unit, name, at, number):
                    self.same(placed(unit, name, at, number), runs, 2)
                    count += 1
                else:
                    with self.assertRaises(BadThing):
                        placed(unit, name, at, number)
        self.assertGreater(count, 100)

    def test_many_calls(self):
        unlike = 0
        for seed in range(260):
            numbers = random.Random(seed)
            unit = lower_module(checked(random_program(seed)[0])[0]) if seed % 3 == 0 else random_unit(seed)
            runs = runs_of(unit, numbers)
            for many in (0, 1, 3, 8):
                made = placed_small(unit, many)
                self.same(made, runs, 1 + many)
                self.same(unit_with_tails(made), runs, 1 + many)
                unlike += made != unit
                if many == 0:
                    self.assertEqual(made, unit)
        self.assertGreater(unlike, 100)

    def test_how_a_call_is_placed(self):
        twice = ("twice", "int(int)", (), (((0,), (("op", 1, "add", 0, 0, AT),), ("return", 1)),))
        main = ("main", "int()", (), (((), (("in", 0, AT), ("call", 1, "twice", (0,), 5, AT), ("out", 1, AT)), ("return", 0)),))
        unit = ("m", (), (twice, main), ())
        made = placed(unit, "main", 0, 1)
        self.assertEqual(made[2][0], twice)
        blocks = made[2][1][3]
        self.assertEqual(len(blocks), 3)
        rows = [row for _, rows, _ in blocks for row in rows]
        self.assertEqual([row[0] for row in rows], ["in", "enter", "op", "out"])
        self.assertIn(("enter", 5, AT), rows)
        for limit in (5, 6):
            self.assertEqual(run_middle([made], (21,), limit, 100)[:2], run_middle([unit], (21,), limit, 100)[:2])

    def test_calls_and_tails_go_deeper(self):
        leaf = ("leaf", "int(int)", (), (((0,), (), ("return", 0)),))
        inner = ("inner", "int(int)", (), (
            ((0,), (("enter", 2, AT), ("call", 1, "leaf", (0,), 3, AT)), ("if", 0, 1, (), 2, ())), ((), (), ("tail", "leaf", (1,), 4, AT)),
            ((), (), ("return", 1))))
        main = ("main", "int()", (1,), (((), (("in", 0, AT), ("call", 1, "inner", (0,), 10, AT)), ("return", 1)),))
        unit = ("m", (), (leaf, inner, main), ())
        made = placed(unit, "main", 0, 1)
        check_unit(made)
        rows = [row for _, rows, _ in made[2][2][3] for row in rows]
        self.assertEqual(sorted(row[1] for row in rows if row[0] == "enter"), [10, 12])
        self.assertEqual(sorted(row[4] for row in rows if row[0] == "call"), [13, 14])
        self.assertNotIn("tail", [end[0] for _, _, end in made[2][2][3]])
        for limit in range(1, 17):
            for word in (0, 7):
                self.assertEqual(run_middle([made], (word,), limit, 100)[:2], run_middle([unit], (word,), limit, 100)[:2])

    def test_a_call_of_itself(self):
        down = ("down", "int(int)", (), (
            ((0,), (), ("if", 0, 1, (), 2, ())), ((), (("const", 1, 1, AT), ("op", 2, "sub", 0, 1, AT), ("call", 3, "down", (2,), 1, AT)), ("return", 3)),
            ((), (), ("return", 0))))
        main = ("main", "int()", (), (((), (("in", 0, AT), ("call", 1, "down", (0,), 1, AT)), ("return", 1)),))
        unit = ("m", (), (down, main), ())
        made = placed(placed(unit, "down", 1, 2), "main", 0, 1)
        check_unit(made)
        for limit in range(1, 9):
            for word in range(8):
                self.assertEqual(run_middle([made], (word,), limit, 500)[:2], run_middle([unit], (word,), limit, 500)[:2])

    def test_what_may_not_be_placed(self):
        leaf = ("leaf", "int()", (), (((), (("const", 0, 1, AT),), ("return", 0)),))
        slotted = ("slotted", "int()", (2,), leaf[3])
        main = ("main", "int()", (), (
            ((), (("call", 0, "leaf", (), 1, AT), ("call", 1, "slotted", (), 1, AT), ("call", 2, "far", (), 1, AT), ("out", 0, AT)), ("return", 0)),))
        unit = ("m", (("g", "int", 1, ()),), (leaf, slotted, main), (("far", "int()", 0),))
        check_unit(unit)
        check_unit(placed(unit, "main", 0, 0))
        for name, at, number in (
            ("main", 0, 1), ("main", 0, 2), ("main", 0, 3), ("main", 0, 4), ("main", 1, 0), ("main", 0, -1), ("main", -1, 0), ("leaf", 0, 0),
            ("nobody", 0, 0), ("far", 0, 0), ("g", 0, 0), (None, 0, 0), (["main"], 0, 0), ("main", None, 0), ("main", 0, None), ("main", "0", 0),
            ("main", False, 0), ("main", 0, False),
        ):
            with self.assertRaises(BadThing, msg=(name, at, number)):
                placed(unit, name, at, number)

    def test_bounds(self):
        def unit_of(own, inner, deeper, calls):
            chain = [((), (("const", 0, 1, AT),) if at == 0 else (), ("go", at + 1, ())) for at in range(inner - 1)]
            last = ((), calls, ("return", 0 if inner > 1 else 5))
            if inner == 1:
                last = ((), (("const", 5, 1, AT),) + calls, ("return", 5))
            leaf = ("leaf", "int()", (), tuple(chain + [last]))
            blocks = [((), (("call", 0, "leaf", (), deeper, AT),), ("go", 1, ()) if own > 1 else ("return", 0))]
            blocks += [((), (), ("go", at + 1, ())) for at in range(1, own - 1)] + [((), (), ("return", 0))] * (own > 1)
            return ("m", (), (leaf, ("main", "int()", (), tuple(blocks))), ())

        for own, inner, right in ((1, 1, True), (74, 75, True), (75, 75, False), (1, 148, True), (2, 148, False), (148, 1, True), (149, 1, False)):
            unit = unit_of(own, inner, 1, ())
            check_unit(unit)
            if right:
                made = placed(unit, "main", 0, 0)
                check_unit(made)
                self.assertEqual(len(made[2][1][3]), own + inner + 1)
            else:
                with self.assertRaises(BadThing):
                    placed(unit, "main", 0, 0)
        for deeper, calls, right in (
            (1000, (), True), (999, (("enter", 1, AT),), True), (1000, (("enter", 1, AT),), False), (500, (("call", 7, "leaf", (), 500, AT),), True),
            (501, (("call", 7, "leaf", (), 500, AT),), False), (1, (("enter", 1000, AT),), False),
        ):
            unit = unit_of(1, 1, deeper, calls)
            check_unit(unit)
            if right:
                check_unit(placed(unit, "main", 0, 0))
            else:
                with self.assertRaises(BadThing):
                    placed(unit, "main", 0, 0)
        tail = ("tails", "int()", (), (((), (), ("tail", "leaf", (), 600, AT)),))
        main = ("main", "int()", (), (((), (("call", 0, "tails", (), 401, AT),), ("return", 0)),))
        with self.assertRaises(BadThing):
            placed(("m", (), (tail, main, unit_of(1, 1, 1, ())[2][0]), ()), "main", 0, 0)


class TailsTest(unittest.TestCase):
    def test_tails(self):
        leaf = ("leaf", "int(int)", (), (((0,), (), ("return", 0)),))
        rows = (("in", 0, AT), ("call", 1, "leaf", (0,), 7, ("m", 3, 3)))
        for slots, end, right in (((), ("return", 1), True), ((), ("return", 0), False), ((3,), ("return", 1), False)):
            unit = ("m", (), (leaf, ("main", "int()", slots, (((), rows, end),))), ())
            made = unit_with_tails(unit)
            check_unit(made)
            self.assertEqual(made[2][1][3][0][2] == ("tail", "leaf", (0,), 7, ("m", 3, 3)), right)
            for limit in (7, 8):
                self.assertEqual(run_middle([made], (5,), limit, 99)[:2], run_middle([unit], (5,), limit, 99)[:2])


if __name__ == "__main__":
    unittest.main()

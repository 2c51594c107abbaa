"""[42]: what chosen rows do."""

import random
import unittest

from lowruns import IMMS, THREES, run_chosen
from middlefunctions import WORDS, random_unit
from middleruns import run_middle
from programs import random_program
from support import checked
from trueimage.choosing import chosen
from trueimage.inlining import unit_with_tails
from trueimage.lowering import lower_module
from trueimage.lowruns import run_low

AT = ("m", 1, 1)
HERE = ("m", 7, 9)
TWO32 = 2 ** 32


def told(rows, end=("return", 0), inputs=(), limit=1, slots=(), things=(), others=(), most=1000):
    """What a main of one block puts out, how it ends, and its steps; value 99 is the depth."""
    main = ("main", slots, (((99,), tuple(rows), end),))
    return run_low([("m", things, tuple(others) + (main,))], inputs, limit, most)


class RowsTest(unittest.TestCase):
    def test_set_and_out(self):
        self.assertEqual(told((("set", 0, TWO32 - 1, AT), ("out", 0, AT), ("out", -1, AT), ("out", 99, AT))),
                         ((TWO32 - 1, 0, 1), ("answer", TWO32 - 1), 5))
        self.assertEqual(told((), ("return", -1)), ((), ("answer", 0), 1))

    def test_instructions_of_three_registers(self):
        words = (0, 1, 2, 31, 33, 2 ** 31 - 1, 2 ** 31, TWO32 - 1, TWO32 - 2, 12345678)
        for op, work in THREES.items():
            for one in words:
                for other in words:
                    rows = (("set", 1, one, AT), ("set", 2, other, AT), ("three", op, 0, 1, 2, AT))
                    self.assertEqual(told(rows), ((), ("answer", work(one, other)), 4), (op, one, other))
            self.assertEqual(told((("set", 2, 5, AT), ("three", op, 0, -1, 2, AT)))[1], ("answer", work(0, 5)))
            self.assertEqual(told((("set", 1, 5, AT), ("three", op, 0, 1, -1, AT)))[1], ("answer", work(5, 0)))
        self.assertEqual(len(THREES), 18)

    def test_instructions_with_a_number(self):
        for op, three in IMMS.items():
            numbers = (0, 1, 31) if three in ("sll", "srl", "sra") else (-2048, -1, 0, 1, 5, 2047)
            for one in (0, 1, 6, 2 ** 31, TWO32 - 1):
                for number in numbers:
                    rows = (("set", 1, one, AT), ("imm", op, 0, 1, number, AT))
                    self.assertEqual(told(rows), ((), ("answer", THREES[three](one, number % TWO32)), 3), (op, one, number))
            self.assertEqual(told((("imm", op, 0, -1, 3, AT),))[1], ("answer", THREES[three](0, 3)))

    def test_loads_and_stores(self):
        things = (("g", "int", 1, (7,)), ("h", "int[3]", 3, (1, 2)))
        rows = (("load", 1, "name", "h", 4, AT), ("store", 1, "name", "h", 8, AT), ("load", 0, "name", "h", 8, AT), ("store", -1, "name", "g", 0, AT),
                ("load", 2, "name", "g", 0, AT), ("out", 2, AT))
        self.assertEqual(told(rows, things=things), ((0,), ("answer", 2), 7))
        rows = (("name", 1, "h", AT), ("load", 2, "at", 1, 4, AT), ("imm", "addi", 3, 1, 8, AT), ("store", 2, "at", 3, 0, AT), ("load", 0, "at", 3, -4, AT),
                ("load", 4, "name", "h", 8, AT), ("out", 4, AT))
        self.assertEqual(told(rows, things=things), ((2,), ("answer", 2), 8))
        rows = (("slot", 1, 1, AT), ("set", 2, 9, AT), ("store", 2, "slot", 1, 8, AT), ("load", 0, "at", 1, 8, AT), ("load", 3, "slot", 0, 4, AT), ("out", 3, AT))
        self.assertEqual(told(rows, slots=(2, 3)), ((0,), ("answer", 9), 7))

    def test_addresses(self):
        things = (("g", "int", 1, ()), ("h", "int[5]", 5, ()), ("i", "int[5]", 5, ()))
        rows = []
        for at, (kind, what) in enumerate((("name", "g"), ("name", "h"), ("name", "i"), ("slot", 0), ("slot", 1))):
            rows += [(kind, at, what, AT), ("out", at, AT)]
        outputs, ending, _ = told(rows, slots=(4, 7), things=things)
        self.assertTrue(all(word % 4 == 0 for word in outputs), outputs)
        words = [word + 4 * at for word, many in zip(outputs, (1, 5, 5, 4, 7)) for at in range(many)]
        self.assertEqual(len(set(words)), 22)
        self.assertEqual(ending, ("answer", outputs[0]))

    def test_loads_and_stores_where_no_word_is(self):
        things = (("g", "int[2]", 2, ()),)
        for ahead, kind, what, behind in (
            ((), "at", -1, 0), ((), "at", -1, -4), ((("set", 1, TWO32 - 4, AT),), "at", 1, 0), ((("name", 1, "g", AT),), "at", 1, 2),
            ((("name", 1, "g", AT),), "at", 1, 1), ((("name", 1, "g", AT),), "at", 1, 2047), ((("name", 1, "g", AT),), "at", 1, -4),
            ((("name", 1, "g", AT),), "at", 1, 8), ((), "name", "g", 8), ((), "name", "g", 16380), ((), "name", "g", 3), ((), "slot", 0, 12), ((), "slot", 0, 2),
        ):
            for row in (("load", 0, kind, what, behind, HERE), ("store", -1, kind, what, behind, HERE)):
                outputs, ending, steps = told(tuple(ahead) + (row, ("set", 5, 5, AT)), ("return", 5), slots=(3,), things=things)
                self.assertEqual((outputs, ending, steps), ((), ("astray", HERE), len(ahead) + 1), row)

    def test_slots_of_calls_that_ended(self):
        leaf = ("leaf", (2,), (((9,), (("slot", 0, 0, AT),), ("return", 0)),))
        rows = (("deep", 1, 99, 1, AT), ("call", 2, "leaf", (1,), AT), ("load", 0, "at", 2, 0, HERE))
        self.assertEqual(told(rows, limit=2, others=(leaf,)), ((), ("astray", HERE), 5))
        put = ("put", (2,), (((9, 8), (("set", 0, 5, AT), ("store", 0, "at", 8, 4, AT)), ("return", 0)),))
        rows = (("deep", 1, 99, 1, AT), ("slot", 3, 1, AT), ("call", 2, "put", (1, 3), AT), ("load", 0, "slot", 1, 4, HERE))
        self.assertEqual(told(rows, limit=2, slots=(1, 3), others=(put,)), ((), ("answer", 5), 8))

    def test_must(self):
        for op, one, other, holds in (
            ("beq", 5, 5, True), ("beq", 5, 6, False), ("bne", 5, 6, True), ("bne", 5, 5, False), ("blt", TWO32 - 1, 0, True), ("blt", 0, 0, False),
            ("bge", 0, TWO32 - 1, True), ("bge", 2 ** 31, 0, False), ("bltu", 0, TWO32 - 1, True), ("bltu", 1, 1, False), ("bgeu", 2 ** 31, 1, True),
            ("bgeu", 0, 1, False),
        ):
            for kind in ("bounds", "zero", "told"):
                rows = (("set", 1, one, AT), ("set", 2, other, AT), ("must", op, 1, 2, kind, HERE))
                self.assertEqual(told(rows, ("return", 1)), ((), ("answer", one), 4) if holds else ((), ("trap", kind, HERE), 3), (op, one, other))
            end = ("branch", op, 1, 2, 1, (1, -1), 2, ())
            blocks = (((99,), (("set", 1, one, AT), ("set", 2, other, AT)), end), ((3, 4), (("out", 4, AT),), ("return", 3)), ((), (), ("return", 2)))
            expected = ((0,), ("answer", one), 5) if holds else ((), ("answer", other), 4)
            self.assertEqual(run_low([("m", (), (("main", (), blocks),))], (), 1, 99), expected)

    def test_deep(self):
        for limit in (3, 4, 1000):
            rows = (("deep", 0, 99, 3, HERE), ("deep", 1, 0, limit - 4, AT)) if limit > 4 else (("deep", 0, 99, 3, HERE),)
            self.assertEqual(told(rows, limit=limit)[1], ("trap", "stack", HERE) if limit == 3 else ("answer", 4))
        self.assertEqual(told((("deep", 0, -1, 5, HERE),), limit=5)[1], ("answer", 5))
        self.assertEqual(told((("deep", 0, -1, 6, HERE),), limit=5), ((), ("trap", "stack", HERE), 1))

    def test_inputs(self):
        rows = (("more", 1, AT), ("out", 1, AT), ("in", 0, AT), ("more", 2, AT), ("out", 2, AT), ("in", 3, HERE))
        self.assertEqual(told(rows, inputs=(7,)), ((1, 0), ("trap", "input", HERE), 6))
        self.assertEqual(told(rows, inputs=[7, 8]), ((1, 1), ("answer", 7), 7))
        self.assertEqual(told(rows), ((0,), ("trap", "input", AT), 3))


class EndsTest(unittest.TestCase):
    def test_go_hands_all_at_once(self):
        blocks = (((99,), (("set", 0, 1, AT), ("set", 1, 2, AT)), ("go", 1, (0, 1, -1))), ((2, 3, 4), (("out", 2, AT), ("out", 3, AT)),
                                                                                  ("branch", "bne", 4, -1, 2, (), 1, (3, 2, 3))), ((), (), ("return", 2)))
        self.assertEqual(run_low([("m", (), (("main", (), blocks),))], (), 1, 99), ((1, 2, 2, 1), ("answer", 2), 10))

    def test_traps(self):
        for kind in ("bounds", "zero", "input", "told", "stack"):
            self.assertEqual(told((), ("trap", kind, HERE)), ((), ("trap", kind, HERE), 1))

    def test_calls_and_tails(self):
        down = ("down", (1,), (
            ((9, 0), (("out", 9, AT),), ("branch", "bne", 0, -1, 1, (), 2, ())), ((), (("imm", "addi", 1, 0, -1, AT), ("deep", 2, 9, 1, HERE),
                                                                                 ("call", 3, "down", (2, 1), AT)), ("return", 3)), ((), (), ("return", 9))))
        rows = (("in", 0, AT), ("deep", 1, 99, 1, AT))
        for end in (("tail", "down", (1, 0), AT), None):
            more = () if end else (("call", 2, "down", (1, 0), AT),)
            outputs, ending, steps = told(rows + more, end or ("return", 2), (3,), 5, others=(down,))
            self.assertEqual((outputs, ending, steps), ((2, 3, 4, 5), ("answer", 5), 3 * 6 + 3 + (3 if end else 4)))
            self.assertEqual(told(rows + more, end or ("return", 2), (3,), 4, others=(down,))[:2], ((2, 3, 4), ("trap", "stack", HERE)))

    def test_each_call_has_slots_of_its_own(self):
        rows = (("load", 1, "slot", 0, 4, AT), ("out", 1, AT), ("store", 0, "slot", 0, 4, AT))
        down = ("down", (2,), (
            ((9, 0), rows, ("branch", "bne", 0, -1, 1, (), 2, ())), ((), (("imm", "addi", 2, 0, -1, AT), ("deep", 3, 9, 1, HERE), ("call", 4, "down", (3, 2), AT),
                                                                     ("load", 5, "slot", 0, 4, AT)), ("return", 5)), ((), (), ("return", -1))))
        more = (("set", 0, 3, AT), ("deep", 1, 99, 1, AT), ("call", 2, "down", (1, 0), AT))
        self.assertEqual(told(more, ("return", 2), limit=9, others=(down,))[:2], ((0, 0, 0, 0), ("answer", 3)))


class RunsTest(unittest.TestCase):
    def test_runs_asked_for_few_steps(self):
        leaf = ("leaf", (4,), (((9,), (("out", -1, AT),), ("return", -1)),))
        rows = (("deep", 1, 99, 1, AT), ("call", 2, "leaf", (1,), AT), ("out", 1, AT))
        for most, outputs in ((0, ()), (1, ()), (2, ()), (3, (0,)), (4, (0,)), (5, (0, 2))):
            self.assertEqual(told(rows, limit=2, others=(leaf,), most=most), (outputs, ("on",), most))
        for most in (6, 7, 200000):
            self.assertEqual(told(rows, ("return", 1), limit=2, others=(leaf,), most=most), ((0, 2), ("answer", 2), 6))

    def test_units_and_globals_together(self):
        one = ("one", (("g", "int", 1, (3,)),), (("f", (), (((9,), (("load", 0, "name", "g", 0, AT),), ("return", 0)),)),))
        two = ("two", (("h", "int", 1, (4,)),), (("main", (), (((9,), (("deep", 1, 9, 1, AT), ("call", 0, "f", (1,), AT), ("load", 2, "name", "h", 0, AT),
                                                           ("out", 2, AT)), ("return", 0)),)),))
        for units in ([one, two], (two, one)):
            self.assertEqual(run_low(units, (), 2, 99)[:2], ((4,), ("answer", 3)))

    def test_random_units(self):
        endings = {}
        for seed in range(250):
            numbers = random.Random(seed)
            unit = lower_module(checked(random_program(seed)[0])[0]) if seed % 4 == 0 else random_unit(seed, numbers.choice((2, 5)), tame=True)
            if seed % 2:
                unit = unit_with_tails(unit)
            low = (unit[0], unit[1], tuple(chosen(function) for function in unit[2]))
            for _ in range(4):
                inputs = tuple(numbers.choice(WORDS) for _ in range(numbers.choice((0, 1, 3, 9))))
                limit, most = numbers.choice((1, 2, 3, 20)), numbers.choice((0, 1, 2, 7, 50, 1500))
                expected = run_chosen([low], inputs, limit, most)
                self.assertEqual(run_low([low], inputs, limit, most), expected)
                outputs, ending, steps = run_middle([unit], inputs, limit, 2000)
                if ending[0] not in ("on", "astray"):
                    again = run_low([low], inputs, limit, 8 * steps + 9)
                    self.assertEqual(again[:2], (outputs, ending))
                    self.assertLessEqual(again[2], 8 * steps + 8)
                key = expected[1][1] if expected[1][0] == "trap" else expected[1][0]
                endings[key] = endings.get(key, 0) + 1
        self.assertEqual(sorted(endings), ["answer", "bounds", "input", "on", "stack", "told", "zero"])

    def test_many_open_calls(self):
        down = ("down", (200,), (
            ((9, 0), (), ("branch", "bne", 0, -1, 1, (), 2, ())), ((), (("imm", "addi", 1, 0, -1, AT), ("deep", 2, 9, 1, HERE), ("call", 3, "down", (2, 1), AT)),
                                                              ("return", 3)), ((), (), ("return", 9))))
        rows = (("in", 0, AT), ("deep", 1, 99, 1, AT), ("call", 2, "down", (1, 0), AT))
        self.assertEqual(told(rows, ("return", 2), (998,), 1000, others=(down,), most=200000)[1], ("answer", 1000))
        self.assertEqual(told(rows, ("return", 2), (999,), 1000, others=(down,), most=200000)[1], ("trap", "stack", HERE))


if __name__ == "__main__":
    unittest.main()

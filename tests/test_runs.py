"""[20]: runs of middle code."""

import random
import unittest

from middlefunctions import CALLEES, WORDS, WORKS, random_unit
from middleruns import run_middle
from programs import random_program
from support import checked
from trueimage.errors import BadThing, BadUnit
from trueimage.inlining import unit_with_tails
from trueimage.lowering import lower_module
from trueimage.runs import run

AT = ("m", 1, 1)
HERE = ("m", 7, 9)


def unit_of(rows, end=("return", 0), slots=(), things=(), others=()):
    """A unit with a main of one block."""
    return ("m", things, tuple(others) + (("main", "int()", slots, (((), tuple(rows), end),)),), ())


def told(rows, end=("return", 0), inputs=(), limit=1, slots=(), things=(), others=()):
    """What a main of one block puts out, and how it ends."""
    return run([unit_of(rows, end, slots, things, others)], inputs, limit, 1000)


def const(value, word):
    return ("const", value, word, AT)


class RowsTest(unittest.TestCase):
    def test_each_kind_of_work(self):
        for kind, one, other, word in (
            ("add", 2 ** 32 - 1, 2, 1), ("sub", 1, 2, 2 ** 32 - 1), ("mul", 2 ** 31 + 1, 2, 2), ("and", 12, 10, 8), ("or", 12, 10, 14), ("xor", 12, 10, 6),
            ("shl", 1, 33, 2), ("shr", 2 ** 31, 31, 1), ("sar", 2 ** 31, 31, 2 ** 32 - 1), ("lts", 2 ** 31, 0, 1), ("ltu", 2 ** 31, 0, 0), ("eq", 5, 5, 1),
            ("divs", 2 ** 32 - 7, 2, 2 ** 32 - 3), ("rems", 2 ** 32 - 7, 2, 2 ** 32 - 1), ("divu", 7, 0, 2 ** 32 - 1), ("remu", 7, 0, 7),
        ):
            self.assertEqual(told((const(1, one), const(2, other), ("op", 0, kind, 1, 2, AT))), ((), ("answer", word), 4))

    def test_globals_and_slots(self):
        things = (("g", "int", 1, (7,)), ("h", "int[3]", 3, (1, 2)))
        rows = (("address", 1, "h", AT), ("load", 2, 1, 1, AT), ("store", 1, 2, 2, AT), ("load", 0, 1, 2, AT), ("out", 0, AT))
        self.assertEqual(told(rows, things=things), ((2,), ("answer", 2), 6))
        rows = (("address", 1, 1, AT), const(2, 9), ("load", 3, 1, 3, AT), ("store", 1, 3, 2, AT), ("load", 0, 1, 3, AT), ("out", 3, AT))
        self.assertEqual(told(rows, slots=(2, 4)), ((0,), ("answer", 9), 13))

    def test_addresses_stand_modulo_two_to_the_30th(self):
        things = (("h", "int[3]", 3, (1, 2, 3)),)
        for index, scale, offset, word in ((2, 1, 0, 3), (2 ** 30 + 1, 1, 0, 2), (2 ** 32 - 1, 1, 1, 1), (2 ** 32 - 1, 256, 255, None), (2 ** 28, 4, 2, 3),
                                           (2 ** 30 - 1, 2, 4, 3), (3, 1, 0, None), (0, 7, 3, None), (2 ** 30 - 1, 1, 0, None)):
            rows = (("address", 1, "h", AT), const(2, index), ("index", 3, 1, 2, scale, AT), ("load", 0, 3, offset, HERE))
            outputs, ending, steps = told(rows, things=things)
            if word is None:
                self.assertIn((outputs, ending, steps), [((), ("astray", HERE), 4), ((), ("astray", None), 4)])
            else:
                self.assertEqual((outputs, ending, steps), ((), ("answer", word), 5))

    def test_loads_and_stores_beside_objects(self):
        things = (("g", "int", 1, ()), ("h", "int[3]", 3, ()), ("i", "int[9]", 9, ()))
        for what, words in (("g", 1), ("h", 3), (0, 2), (1, 5)):
            for offset in (0, words - 1, words, 255):
                for row in (("load", 0, 1, offset, HERE), ("store", 1, offset, 2, HERE)):
                    rows = (const(2, 6), ("address", 1, what, AT), row, const(9, 4))
                    outputs, ending, _ = told(rows, ("return", 9), slots=(2, 5), things=things)
                    self.assertEqual(outputs, ())
                    if offset < words:
                        self.assertEqual(ending, ("answer", 4))
                    else:
                        self.assertIn(ending, [("astray", HERE), ("astray", None)])

    def test_inputs_and_outputs(self):
        rows = (("more", 1, AT), ("out", 1, AT), ("in", 0, AT), ("more", 2, AT), ("out", 2, AT), ("out", 0, AT), ("in", 3, HERE))
        self.assertEqual(told(rows, inputs=(2 ** 32 - 1, 5)), ((1, 1, 2 ** 32 - 1), ("answer", 2 ** 32 - 1), 8))
        self.assertEqual(told(rows, inputs=(5,)), ((1, 0, 5), ("trap", "input", HERE), 7))
        self.assertEqual(told(rows), ((0,), ("trap", "input", AT), 3))

    def test_checks(self):
        for kind in ("bounds", "zero", "told"):
            self.assertEqual(told((const(0, 0), ("check", 0, kind, HERE))), ((), ("trap", kind, HERE), 2))
            self.assertEqual(told((const(0, 2 ** 31), ("check", 0, kind, HERE))), ((), ("answer", 2 ** 31), 3))


class EndsTest(unittest.TestCase):
    def test_go_and_if(self):
        blocks = (((), (("in", 0, AT), ("in", 1, AT)), ("go", 1, (0, 1))), ((2, 3), (("out", 2, AT),), ("if", 3, 1, (3, 2), 2, ())), ((), (), ("return", 2)))
        unit = ("m", (), (("main", "int()", (), blocks),), ())
        # What is handed is handed at once.
        self.assertEqual(run([unit], (5, 0), 1, 99), ((5,), ("answer", 5), 6))
        self.assertEqual(run([unit], (0, 7), 1, 99), ((0, 7), ("answer", 7), 8))
        self.assertEqual(run([unit], (5, 7), 1, 5), ((5,), ("on",), 5))

    def test_traps_at_the_end(self):
        for kind in ("bounds", "zero", "input", "told", "stack"):
            self.assertEqual(told((const(0, 1), ("out", 0, AT)), ("trap", kind, HERE)), ((1,), ("trap", kind, HERE), 3))

    def test_calls_and_depths(self):
        leaf = ("leaf", "int(int)", (3,), (((0,), (("enter", 2, ("m", 2, 2)),), ("return", 0)),))
        rows = (const(1, 5), ("call", 0, "leaf", (1,), 3, HERE))
        for limit, answer in ((6, ("answer", 5)), (5, ("trap", "stack", ("m", 2, 2))), (4, ("trap", "stack", ("m", 2, 2))), (3, ("trap", "stack", HERE)),
                              (1, ("trap", "stack", HERE))):
            steps = {6: 8, 5: 6, 4: 6}.get(limit, 2)
            self.assertEqual(told(rows, limit=limit, others=(leaf,)), ((), answer, steps), limit)

    def test_tails_and_depths(self):
        down = ("down", "int(int)", (), (
            ((0,), (), ("if", 0, 1, (), 2, ())), ((), (const(1, 1), ("op", 2, "sub", 0, 1, AT)), ("tail", "down", (2,), 2, HERE)), ((), (), ("return", 0))))
        main = ("main", "int()", (), (((), (("in", 0, AT),), ("tail", "down", (0,), 1, ("m", 3, 3))),))
        unit = ("m", (), (down, main), ())
        self.assertEqual(run([unit], (3,), 8, 99), ((), ("answer", 0), 2 + 3 * 4 + 2))
        self.assertEqual(run([unit], (3,), 7, 99), ((), ("trap", "stack", HERE), 2 + 3 * 4))
        self.assertEqual(run([unit], (3,), 1, 99), ((), ("trap", "stack", ("m", 3, 3)), 2))

    def test_each_call_has_slots_of_its_own(self):
        rows = (("address", 1, 0, AT), ("load", 2, 1, 1, AT), ("out", 2, AT), ("store", 1, 1, 0, AT))
        down = ("down", "int(int)", (2,), (
            ((0,), rows, ("if", 0, 1, (), 2, ())), ((), (const(3, 1), ("op", 4, "sub", 0, 3, AT), ("call", 5, "down", (4,), 1, AT), ("load", 6, 1, 1, AT)),
             ("return", 6)), ((), (), ("return", 0))))
        main = ("main", "int()", (), (((), (const(0, 2), ("call", 1, "down", (0,), 1, AT)), ("return", 1)),))
        outputs, ending, _ = run([("m", (), (down, main), ())], (), 9, 999)
        self.assertEqual((outputs, ending), ((0, 0, 0), ("answer", 2)))

    def test_addresses_are_handed(self):
        put = ("put", "int(int[],int)", (), (((0, 1, 2), (("store", 0, 1, 2, AT),), ("return", 1)),))
        rows = (("address", 1, 0, AT), const(2, 4), const(3, 9), ("call", 4, "put", (1, 2, 3), 1, AT), ("load", 0, 1, 1, AT), ("out", 4, AT))
        self.assertEqual(told(rows, limit=2, slots=(4,), others=(put,)), ((4,), ("answer", 9), 4 + 9))

    def test_units_together(self):
        one = ("one", (("g", "int", 1, (3,)),), (("f", "int(int)", (), (((0,), (("address", 1, "g", AT), ("load", 2, 1, 0, AT)), ("return", 2)),)),), ())
        rows = (const(0, 1), ("address", 1, "g", AT), ("store", 1, 0, 0, AT), ("call", 2, "f", (0,), 1, AT))
        two = ("two", (), (("main", "int()", (), (((), rows, ("return", 2)),)),), (("f", "int(int)", 1), ("g", "int", -1)))
        for units in ([one, two], [two, one], (one, two)):
            self.assertEqual(run(units, (), 2, 99), ((), ("answer", 1), 8))


class StepsTest(unittest.TestCase):
    def test_runs_asked_for_few_steps(self):
        leaf = ("leaf", "int()", (4,), (((), (const(0, 3), ("out", 0, AT)), ("return", 0)),))
        unit = unit_of((const(1, 1), ("call", 0, "leaf", (), 1, AT), ("out", 0, AT)), slots=(2, 1), others=(leaf,))
        # The slots of main come at the very beginning, those of leaf with the row of the call.
        expected = {0: (3, ()), 1: (3, ()), 2: (3, ()), 3: (3, ()), 4: (4, ()), 5: (9, ()), 8: (9, ()), 9: (9, ()), 10: (10, ()), 11: (11, (3,)),
                    12: (12, (3,)), 13: (13, (3, 3))}
        for most, (steps, outputs) in expected.items():
            self.assertEqual(run([unit], (), 2, most), (outputs, ("on",), steps), most)
        for most in (14, 15, 200000):
            self.assertEqual(run([unit], (), 2, most), ((3, 3), ("answer", 3), 14))

    def test_runs_that_trap_count_what_traps(self):
        for rows, end, inputs, steps in (
            ((const(0, 0), ("check", 0, "told", AT)), ("return", 0), (), 2), ((("in", 0, AT),), ("return", 0), (), 1),
            ((const(0, 0), ("enter", 1, AT)), ("return", 0), (), 2), ((const(0, 0),), ("trap", "zero", AT), (), 2),
            ((const(0, 0), ("address", 1, 0, AT), ("load", 2, 1, 9, AT)), ("return", 0), (), 8),
        ):
            slots = (5,) if rows[-1][0] == "load" else ()
            unit = unit_of(rows, end, slots)
            ending = run([unit], inputs, 1, 99)
            self.assertEqual(ending[2], steps)
            self.assertIn(ending[1][0], ("trap", "astray"))
            self.assertEqual(run([unit], inputs, 1, steps), ending)
            self.assertEqual(run([unit], inputs, 1, steps - 1), ((), ("on",), steps - 1))

    def test_random_units_beside_another_run(self):
        endings = {}
        for seed in range(250):
            numbers = random.Random(seed)
            unit = lower_module(checked(random_program(seed)[0])[0]) if seed % 4 == 0 else random_unit(seed, numbers.choice((2, 5, 9)))
            if seed % 2:
                unit = unit_with_tails(unit)
            for _ in range(4):
                inputs = tuple(numbers.choice(WORDS) for _ in range(numbers.choice((0, 1, 3, 9))))
                limit, most = numbers.choice((1, 2, 3, 20)), numbers.choice((0, 1, 2, 7, 50, 1500))
                expected = run_middle([unit], inputs, limit, most)
                self.assertEqual(run([unit], inputs, limit, most), expected)
                self.assertEqual(run((unit,), list(inputs), limit, most), expected)
                key = expected[1][1] if expected[1][0] == "trap" else expected[1][0]
                endings[key] = endings.get(key, 0) + 1
        self.assertEqual(sorted(endings), ["answer", "astray", "bounds", "input", "on", "stack", "told", "zero"])

    def test_many_open_calls(self):
        down = ("down", "int(int)", (), (
            ((0,), (), ("if", 0, 1, (), 2, ())), ((), (const(1, 1), ("op", 2, "sub", 0, 1, AT), ("call", 3, "down", (2,), 1, HERE)), ("return", 3)),
            ((), (), ("return", 0))))
        main = ("main", "int()", (), (((), (("in", 0, AT), ("call", 1, "down", (0,), 1, AT)), ("return", 1)),))
        unit = ("m", (), (down, main), ())
        self.assertEqual(run([unit], (998,), 1000, 200000)[1], ("answer", 0))
        self.assertEqual(run([unit], (999,), 1000, 200000)[1], ("trap", "stack", HERE))


class ErrorsTest(unittest.TestCase):
    RIGHT = unit_of((const(0, 7),))

    def test_units_that_are_not_well_formed(self):
        for unit in (None, 5, (), "m", list(self.RIGHT), self.RIGHT[:3], ("m", (), (("main", "int()", (), ()),), ()), unit_of((("out", 5, AT),))):
            # They are told ahead of all others.
            for units, inputs, limit in (([unit], (), 1), ([self.RIGHT, unit], (), 1), ([unit, unit], (None,), 0)):
                with self.assertRaises(BadUnit):
                    run(units, inputs, limit, 99)

    def test_units_that_do_not_go_together(self):
        wants = ("n", (), (), (("far", "int()", 0),))
        for units in ([], [self.RIGHT, self.RIGHT], [self.RIGHT, wants], [wants], [("n", (), CALLEES[:1], ())],
                      [("n", (("main", "int", 1, ()),), (), ())], [("n", (), (("main", "int(int)", (), (((0,), (), ("return", 0)),)),), ())]):
            for inputs, limit in (((), 1), ((None,), 1), ((), 0)):
                with self.assertRaises(BadThing):
                    run(units, inputs, limit, 99)

    def test_inputs(self):
        for inputs in ((True,), (-1,), (2 ** 32,), ("5",), (None,), (1, 2, 1.0), (5, (6,)), "5", None, 5, {5}, {5: 5}):
            for limit in (1, 0):
                with self.assertRaises(BadThing):
                    run([self.RIGHT], inputs, limit, 99)
        for inputs in ((), [], (0, 2 ** 32 - 1), [0, 2 ** 32 - 1]):
            self.assertEqual(run([self.RIGHT], inputs, 1, 99), ((), ("answer", 7), 2))

    def test_limits(self):
        for limit in (0, -1, 1001, True, False, None, "1", 1.0, (1,)):
            with self.assertRaises(BadThing):
                run([self.RIGHT], (), limit, 99)
        for limit in (1, 2, 1000):
            self.assertEqual(run([self.RIGHT], (), limit, 99), ((), ("answer", 7), 2))

    def test_nothing_is_changed(self):
        unit = unit_of((("address", 1, "g", AT), const(2, 9), ("store", 1, 0, 2, AT), ("in", 0, AT)), things=(("g", "int", 1, (3,)),))
        units, inputs = [unit], [5, 6]
        self.assertEqual(run(units, inputs, 1, 99), run(units, inputs, 1, 99))
        self.assertEqual((units, inputs, unit[1]), ([unit], [5, 6], (("g", "int", 1, (3,)),)))

    def test_kinds_of_work_are_all_there(self):
        self.assertEqual(len(WORKS), 16)
        for kind in WORKS:
            self.assertEqual(told((const(1, 9), const(2, 4), ("op", 0, kind, 1, 2, AT)))[1][0], "answer")


if __name__ == "__main__":
    unittest.main()

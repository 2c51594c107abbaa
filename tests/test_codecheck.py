"""[49]: the walk over code."""

import random
import unittest

from middlefunctions import CALLEES, GLOBALS, random_unit
from programs import random_program
from randomcolours import random_colouring
from support import checked
from trueimage.choosing import chosen
from trueimage.codecheck import wrong_code, wrong_object
from trueimage.colours import colours_of, colours_within
from trueimage.forms import decode, encode
from trueimage.inlining import placed_small, unit_with_tails
from trueimage.lowering import lower_module
from trueimage.objectforms import is_object
from trueimage.objects import object_of
from trueimage.optimising import optimised_unit
from wildunits import wild_unit

PASSES = ("fold", "params", "again", "dead", "loops", "join", "thread")
RETURN = ("jalr", 0, 1, 0)
STOP = ("ebreak", 0, 0, 0)
NOP = ("addi", 0, 0, 0)
# A function that saves ra and two registers, and calls.
RIGHT = [
    ("addi", 2, 2, -16), ("sw", 2, 1, 0), ("sw", 2, 8, 4), ("sw", 2, 18, 8), ("addi", 8, 10, 0), ("addi", 18, 11, 0), ("beq", 8, 0, 12),
    ("addi", 10, 8, 1), ("jal", 1, 0, 0), ("add", 10, 18, 8), ("lw", 1, 2, 0), ("lw", 8, 2, 4), ("lw", 18, 2, 8), ("addi", 2, 2, 16), RETURN,
]
CALL = ((8, "jump", "far", 0),)


def thing_of(instructions, size=16, patches=CALL, more=(), names=None):
    """An object with one function, or more, by hand."""
    words = tuple(one if isinstance(one, int) else encode(one) for one in instructions)
    names = names or (("f", "int(int,int)", 2, 0),)
    wants = (("far", "int()", 0), ("g", "int[4]", -1))
    frames = tuple((name[0], size) for name in names)
    return ("m", words, tuple(more), names, wants, tuple(patches), (None,) * len(words), (), frames, (), 8)


class FactTest(unittest.TestCase):
    def look(self, unit, numbers):
        """Nothing is wrong with what object_of makes, whatever the colouring."""
        self.right(object_of(unit))
        few = {function[0]: colours_within(chosen(function), numbers.randrange(1, 13)) for function in unit[2]}
        self.right(object_of(unit, few))
        words = numbers.choice((400, 4096))
        told = {function[0]: random_colouring(chosen(function), numbers, words=words, spilled=numbers.choice((0, 0.2, 0.8))) for function in unit[2]}
        self.right(object_of(unit, told))

    def right(self, thing):
        self.assertIsNone(wrong_object(thing))
        for name, _, _, _ in thing[3]:
            self.assertIsNone(wrong_code(thing, name))

    def test_random_units(self):
        for seed in range(150):
            numbers = random.Random(seed)
            unit = lower_module(checked(random_program(seed)[0])[0]) if seed % 3 == 0 else random_unit(seed, numbers.choice((2, 5, 9)))
            if seed % 2:
                unit = unit_with_tails(placed_small(unit, seed % 9))
            if seed % 5 == 0:
                unit, _ = optimised_unit(unit, tuple(numbers.choice(PASSES) for _ in range(3)))
            self.look(unit, numbers)

    def test_indices_that_are_always_wrong(self):
        # What a check stops ahead of it is never stored, wherever in the frame it would be.
        text = ("module m; int f(int r[], int i) { r[0xfffffffe] = 1; r[0xffffffff] = r[0xfffffffe]; r[100] = 3; return r[i]; } int main() { int a[4]; int b[256];"
                "a[100] = 5; a[0xfffffffe] = 6; a[0xffffffff] = a[0xfffffffe]; a[0xfffffffd] = a[0xfffffffe]; b[0xfffffffe] = b[700]; return f(a, in()) + f(b[2], in()); }")
        unit = lower_module(checked(text)[0])
        for many in (0, 4):
            for names in ((), PASSES, ("join", "again")):
                made, _ = optimised_unit(unit_with_tails(placed_small(unit, many)), names)
                self.look(made, random.Random(many))

    def test_wild_units(self):
        # Loads and stores anywhere, behind addresses that are handed from block to block.
        for seed in range(150):
            numbers = random.Random(seed)
            unit = wild_unit(seed, numbers.choice((2, 6, 9)))
            if seed % 2:
                unit = unit_with_tails(placed_small(unit, seed % 9))
            if seed % 5 == 0:
                unit, _ = optimised_unit(unit, tuple(numbers.choice(PASSES) for _ in range(3)))
            self.look(unit, numbers)

    def test_large_frames(self):
        text = ("module m; int f(int x) { " + "".join(f"int a{at}[256]; a{at}[x] = x; " for at in range(20)) + "if (x) return f(x - 1) + a3[x]; return a1[x] + a19[0]; }"
                "int main() { return f(in()) + f(in()); }")
        unit = lower_module(checked(text)[0])
        for many in (1, 2, 11):
            thing = object_of(unit, {function[0]: colours_within(chosen(function), many) for function in unit[2]})
            self.assertGreater(dict(thing[8])["f"], 20000)
            self.right(thing)

    def test_objects_without_functions(self):
        self.assertIsNone(wrong_object(object_of(("m", GLOBALS, (), ()))))


class WrongCodeTest(unittest.TestCase):
    def wrong(self, instructions, at=None, size=16, patches=CALL, more=()):
        thing = thing_of(instructions, size, patches, more)
        found = wrong_code(thing, "f")
        self.assertIsNotNone(found, instructions)
        self.assertEqual((len(found), isinstance(found[0], str)), (2, True))
        self.assertTrue(0 <= found[1] < len(instructions))
        if at is not None:
            self.assertEqual(found[1], at)
        self.assertEqual(wrong_object(thing), ("f",) + found)

    def right(self, instructions, size=16, patches=CALL, more=()):
        thing = thing_of(instructions, size, patches, more)
        self.assertIsNone(wrong_code(thing, "f"), instructions)
        self.assertIsNone(wrong_object(thing))

    def changed(self, at, instruction):
        return RIGHT[:at] + [instruction] + RIGHT[at + 1:]

    def test_right_code(self):
        self.right(RIGHT)
        self.assertTrue(is_object(thing_of(RIGHT)))
        self.right([RETURN], 0, ())
        self.right([STOP], 0, ())
        self.right([("jal", 0, 0, 0)], 0, ())
        # A loop, and what stands behind it.
        self.right([("addi", 10, 10, -1), ("bne", 10, 0, -4), RETURN], 0, ())
        # A frame made, and left, by a number in a register; registers saved elsewhere.
        self.right([("lui", 5, 1, 0), ("sub", 2, 2, 5), ("addi", 2, 2, 2000), ("addi", 2, 2, -2000), ("lui", 5, 1, 0), ("add", 2, 2, 5), RETURN], 4096, ())
        self.right([("addi", 5, 1, 0), ("addi", 1, 0, 7), ("addi", 1, 5, 0), RETURN], 0, ())
        self.right([("addi", 2, 2, -16), ("sw", 2, 1, 12), ("addi", 6, 2, 16), ("lw", 1, 6, -4), ("addi", 2, 6, 0), RETURN], 16, ())

    def test_sp_not_put_back(self):
        self.wrong(self.changed(13, NOP))
        self.wrong(self.changed(13, ("addi", 2, 2, 32)))
        self.wrong(self.changed(13, ("addi", 2, 2, 12)))
        self.wrong(self.changed(13, ("addi", 2, 8, 16)))
        # On one of two ways.
        self.wrong([("beq", 10, 0, 8), ("addi", 2, 2, -16), RETURN], None, 16, ())

    def test_sp_below_or_above(self):
        self.wrong(self.changed(0, ("addi", 2, 2, -32)))
        self.wrong([("addi", 2, 2, -16), ("addi", 2, 2, -16), ("addi", 2, 2, 32), RETURN], None, 16, ())
        self.wrong([("addi", 2, 2, 16), ("addi", 2, 2, -16), RETURN], None, 16, ())
        self.wrong([("lui", 2, 5, 0), STOP], None, 16, ())
        self.wrong([("lw", 2, 10, 0), STOP], None, 16, ())

    def test_kept_registers(self):
        for at in (11, 12):
            self.wrong(self.changed(at, NOP))
        self.wrong(self.changed(11, ("lw", 8, 2, 8)))
        self.wrong(self.changed(12, ("lh", 18, 2, 8)))
        self.wrong(self.changed(2, NOP))
        self.wrong(self.changed(2, ("sb", 2, 8, 4)))
        for register in (8, 9) + tuple(range(18, 28)):
            self.wrong([("addi", register, 0, 1), RETURN], 1, 0, ())
            self.wrong([("addi", register, register, 1), RETURN], 1, 0, ())
            self.wrong([("beq", 10, 0, 8), ("add", register, 10, 11), RETURN], None, 0, ())
            self.right([("addi", register, register, 0), RETURN], 0, ())
        for register in (5, 6, 7) + tuple(range(10, 18)) + tuple(range(28, 32)):
            self.right([("addi", register, 0, 1), RETURN], 0, ())

    def test_ra_lost(self):
        self.wrong(self.changed(10, NOP))
        self.wrong(self.changed(10, ("lw", 1, 2, 4)))
        self.wrong(self.changed(1, NOP))
        self.wrong(self.changed(1, ("sw", 2, 10, 0)))
        self.wrong(self.changed(4, ("sw", 2, 10, 0)))
        self.wrong(self.changed(4, ("sh", 2, 10, 2)))
        self.wrong(self.changed(4, ("sb", 2, 10, 3)))
        self.wrong([("addi", 1, 0, 0), RETURN], 1, 0, ())

    def test_stores_beside_the_frame(self):
        for name, many in (("sw", 4), ("sh", 2), ("sb", 1)):
            self.right(self.changed(4, (name, 2, 10, 12)))
            self.right(self.changed(4, (name, 2, 10, 16 - many)))
            for number in (16, -many, -4, 17 - many, 2000, -2048):
                self.wrong(self.changed(4, (name, 2, 10, number)), 4)
        self.wrong([("sw", 2, 10, 0), RETURN], 0, 16, ())
        self.right([("sw", 2, 10, -4), RETURN], 16, ())
        self.wrong([("sw", 2, 10, -4), RETURN], 0, 0, ())

    def test_stores_by_other_registers(self):
        # Known to stand behind sp: in the frame, in words that are saved, and beside the frame.
        for base, number in ((("addi", 5, 2, 4), 8), (("addi", 5, 2, 16), -4), (("addi", 5, 2, -100), 112), (("addi", 18, 2, 12), 0)):
            self.right(RIGHT[:4] + [("addi", 7, 18, 0), base, ("sw", base[1], 10, number)] + [("addi", 8, 10, 0), ("addi", 18, 11, 0)] + RIGHT[9:], 16, ())
        for number in (0, 4, 8, 1, 10):
            self.wrong(RIGHT[:4] + [("addi", 5, 2, 0), ("sw", 5, 10, number)] + RIGHT[9:], None, 16, ())
        for number in (-8, 16, 20, 2000):
            self.wrong(RIGHT[:4] + [("addi", 5, 2, 0), ("sw", 5, 10, number)] + RIGHT[9:], 5, 16, ())
        for name, number in (("sb", 3), ("sh", 2), ("sb", 7), ("sh", 8)):
            self.wrong(RIGHT[:4] + [("addi", 5, 2, 0), (name, 5, 10, number)] + RIGHT[9:], None, 16, ())
        # Known again, as it was put back.
        self.right(RIGHT[:4] + [("addi", 5, 2, 0), ("sw", 5, 10, 0), ("sw", 5, 1, 0)] + RIGHT[9:], 16, ())
        # Of whose base nothing is known: a param, what was loaded, a number, what a patch puts there.
        for base in (("addi", 5, 11, 0), ("lw", 5, 10, 0), ("lui", 5, 5, 0), ("addi", 5, 0, 0), ("sll", 5, 2, 10), ("and", 5, 2, 10)):
            self.right(RIGHT[:4] + [base, ("sw", 5, 10, 0)] + RIGHT[9:], 16, ())
        self.right(RIGHT[:4] + [("addi", 5, 2, 0), ("sw", 5, 10, 0)] + RIGHT[9:], 16, ((4, "low", "g", 0),))

    def test_large_frames_by_hand(self):
        rows = [("lui", 5, 2, 0), ("sub", 2, 2, 5), ("lui", 5, 1, 0), ("add", 5, 5, 2), ("sw", 5, 1, -4), ("jal", 1, 0, 0), ("lui", 1, 1, 0), ("add", 1, 1, 2), ("lw", 1, 1, -4),
                ("lui", 5, 2, 0), ("add", 2, 2, 5), RETURN]
        call = ((5, "jump", "far", 0),)
        self.right(rows, 8192, call)
        self.wrong(rows[:4] + [NOP] + rows[5:], 11, 8192, call)
        self.wrong(rows[:4] + [("sw", 5, 10, -4)] + rows[5:], 11, 8192, call)
        self.wrong(rows[:8] + [("lw", 1, 1, -8)] + rows[9:], 11, 8192, call)
        self.wrong(rows[:9] + [("lui", 5, 1, 0)] + rows[10:], None, 8192, call)
        self.wrong(rows, None, 8176, call)
        self.wrong(rows[:2] + [("lui", 5, 3, 0)] + rows[3:], 4, 8192, call)

    def test_stores_on_ways_that_come_together(self):
        # Through a loop a register is behind sp at first, and then unknown: such stores reach objects.
        self.right([("addi", 2, 2, -16), ("addi", 5, 2, 0), ("sw", 5, 0, 0), ("addi", 5, 5, 4), ("bne", 5, 10, -8), ("addi", 2, 2, 16), RETURN], 16, ())
        # On both ways the same.
        rows = [("addi", 2, 2, -16), ("beq", 10, 0, 12), ("addi", 5, 2, 4), ("jal", 0, 8, 0), ("addi", 5, 2, 4), ("sw", 5, 0, 0), ("addi", 2, 2, 16), RETURN]
        self.right(rows, 16, ())
        self.wrong(rows[:5] + [("sw", 5, 0, 12)] + rows[6:], 5, 16, ())
        self.right(rows[:4] + [("addi", 5, 2, 0), ("sw", 5, 0, 12)] + rows[6:], 16, ())

    def test_stores_that_are_patched(self):
        low = CALL[:0] + ((4, "low", "g", 0),) + CALL
        self.wrong(self.changed(4, ("sw", 2, 10, 12)), 4, 16, low)
        self.right(self.changed(4, ("sw", 6, 10, 12)), 16, low)

    def test_what_patched_words_give_is_unknown(self):
        self.wrong(self.changed(13, ("addi", 2, 2, 16)), None, 16, CALL + ((13, "low", "g", 0),))
        self.wrong(self.changed(13, ("addi", 2, 2, 16)), None, 16, CALL + ((13, "limit", "", 0),))
        self.wrong(self.changed(11, ("lw", 8, 2, 4)), None, 16, CALL + ((11, "low", "g", 0),))
        self.right(self.changed(4, ("lui", 8, 0, 0)), 16, ((4, "high", "g", 0),) + CALL)
        self.wrong([("lui", 5, 1, 0), ("sub", 2, 2, 5), ("lui", 5, 1, 0), ("add", 2, 2, 5), RETURN], None, 4096, ((0, "high", "g", 0),))

    def test_calls(self):
        # Without the patch; with sp elsewhere; by jalr; of what is no function.
        self.wrong(RIGHT, 8, 16, ())
        self.wrong(RIGHT, None, 32)
        self.wrong(RIGHT[8:9] + [RETURN], 0, 16, ((0, "jump", "far", 0),))
        self.wrong(self.changed(7, ("addi", 2, 2, 16)), None)
        self.wrong(self.changed(8, ("jalr", 1, 5, 0)), 8, 16, ())
        self.wrong(self.changed(8, ("jalr", 1, 1, 0)), 8, 16, ())
        self.wrong(self.changed(8, ("jal", 1, 4, 0)), 8, 16, ())
        self.wrong(RIGHT, 8, 16, ((8, "jump", "g", 0),))
        # What a call may change.
        for register in (1, 5, 6, 7) + tuple(range(10, 18)) + tuple(range(28, 32)):
            rows = [("addi", 2, 2, -16), ("sw", 2, 1, 0), ("addi", register, 8, 0), ("jal", 1, 0, 0), ("addi", 8, register, 0), ("lw", 1, 2, 0), ("addi", 2, 2, 16), RETURN]
            self.wrong(rows, 7, 16, ((3, "jump", "far", 0),))
            self.right(rows[:4] + [NOP] + rows[5:], 16, ((3, "jump", "far", 0),))

    def test_ends(self):
        for instruction in (("jalr", 0, 5, 0), ("jalr", 0, 1, 4), ("jalr", 5, 1, 0), ("jalr", 0, 0, 0), ("jalr", 0, 2, 0), ("jalr", 1, 1, 0)):
            self.wrong(self.changed(14, instruction), 14)
        # A last call: all is as at first, and it goes to another function.
        tail = CALL + ((14, "jump", "far", 0),)
        self.right(self.changed(14, ("jal", 0, 0, 0)), 16, tail)
        self.right(self.changed(14, ("jal", 0, 0, 0)), 16, CALL + ((14, "jump", "f", 0),))
        self.wrong(self.changed(14, ("jal", 0, 0, 0))[:11] + [NOP] + self.changed(14, ("jal", 0, 0, 0))[12:], 14, 16, tail)
        self.wrong(self.changed(13, NOP)[:14] + [("jal", 0, 0, 0)], None, 16, tail)
        self.wrong(self.changed(10, NOP)[:14] + [("jal", 0, 0, 0)], 14, 16, tail)

    def test_ways_out_of_the_function(self):
        self.wrong(RIGHT[:14] + [NOP], 14)
        self.wrong(RIGHT[:14] + [("ecall", 0, 0, 0)], 14)
        self.wrong(RIGHT[:14] + [("fence", 0, 0, 0)], 14)
        self.wrong(self.changed(14, ("beq", 0, 0, -4)))
        for instruction in (("beq", 8, 0, -28), ("beq", 8, 0, 36), ("beq", 8, 0, 4094), ("beq", 8, 0, 10), ("beq", 8, 0, 2), ("bne", 8, 0, -2), ("jal", 0, -28, 0), ("jal", 0, 36, 0),
                            ("jal", 0, 2, 0), ("jal", 5, 400, 0), ("jal", 0, -2 ** 20, 0)):
            self.wrong(self.changed(6, instruction), 6)
        self.wrong([("jal", 0, 8, 0)], 0, 0, ())
        self.wrong([NOP], 0, 0, ())
        self.wrong([("jal", 0, 4, 0)], 0, 0, ())
        # Into the next function.
        names = (("f", "int()", 0, 0), ("g", "int()", 0, 1))
        thing = thing_of([("jal", 0, 4, 0), RETURN], 0, (), names=names)
        self.assertEqual(wrong_code(thing, "f")[1], 0)
        self.assertIsNone(wrong_code(thing, "g"))
        self.assertEqual(wrong_object(thing)[::2], ("f", 0))
        thing = thing_of([NOP, RETURN], 0, (), names=names)
        self.assertEqual(wrong_code(thing, "f")[1], 0)

    def test_registers_3_and_4(self):
        for register in (3, 4):
            for instruction in (("addi", register, 0, 1), ("lui", register, 1, 0), ("lw", register, 2, 0), ("add", register, 10, 11), ("jal", register, 4, 0), ("auipc", register, 0, 0),
                                ("addi", register, register, 0)):
                self.wrong(self.changed(4, instruction), 4)
            self.right(self.changed(4, ("addi", 8, register, 0)))

    def test_words_that_are_no_instruction(self):
        for word in (0, 2 ** 32 - 1, 0x0000100f):
            for at in (0, 4, 14):
                self.wrong(self.changed(at, word), at)

    def test_patches_that_do_not_go_with_their_instructions(self):
        for instruction, kind, name in ((("addi", 8, 10, 0), "high", "g"), (("auipc", 8, 0, 0), "high", "g"), (("add", 8, 10, 0), "low", "g"), (("lui", 8, 0, 0), "low", "g"),
                                        (("slli", 8, 10, 0), "low", "g"), (("beq", 8, 10, 4), "low", "g"), (("addi", 8, 10, 0), "jump", "far"), (("jalr", 0, 1, 0), "jump", "far"),
                                        (("lw", 8, 10, 0), "limit", ""), (("lui", 8, 0, 0), "limit", ""), (("beq", 8, 10, 8), "jump", "far"), (NOP, "other", "g")):
            self.wrong(self.changed(4, instruction), 4, 16, ((4, kind, name, 0),) + CALL)

    def test_the_first_function_with_something_wrong(self):
        names = (("f", "int()", 0, 0), ("g", "int()", 0, 1), ("h", "int()", 0, 3))
        thing = thing_of([RETURN, ("addi", 8, 0, 1), RETURN, ("addi", 3, 0, 1), RETURN], 0, (), names=names)
        self.assertIsNone(wrong_code(thing, "f"))
        self.assertEqual([wrong_code(thing, name)[1] for name in ("g", "h")], [2, 3])
        self.assertEqual(wrong_object(thing), ("g",) + wrong_code(thing, "g"))

    def test_ways_that_come_together(self):
        # In a loop what is known gets less until it holds on all ways.
        rows = [("addi", 5, 1, 0), ("addi", 6, 1, 0), ("addi", 7, 1, 0), ("beq", 10, 0, 20), ("addi", 7, 6, 0), ("addi", 6, 5, 0), ("addi", 5, 0, 0), ("jal", 0, -16, 0),
                ("addi", 1, 7, 0), RETURN]
        self.wrong(rows, 9, 0, ())
        self.right(rows[:6] + [NOP] + rows[7:], 0, ())
        self.right([("beq", 10, 0, 12), ("addi", 5, 1, 0), ("jal", 0, 8, 0), ("addi", 5, 1, 0), ("addi", 1, 5, 0), RETURN], 0, ())
        self.wrong([("beq", 10, 0, 12), ("addi", 5, 1, 0), ("jal", 0, 8, 0), ("addi", 5, 8, 0), ("addi", 1, 5, 0), RETURN], 5, 0, ())


class ChangedObjectsTest(unittest.TestCase):
    def test_words_of_saving_left_out(self):
        """Each word that saves, restores or moves sp is missed if it goes, where each is needed on the only way."""
        at = ("m", 1, 1)
        rows = [("in", 0, at), ("in", 1, at), ("in", 2, at)] + [("call", 3 + many, "sum", (many, 2), 1, at) for many in range(3)]
        rows += [("out", value, at) for value in (0, 1, 2, 3, 4, 5)]
        unit = ("m", (), (CALLEES[0], ("main", "int()", (), (((), tuple(rows), ("return", 5)),))), ())
        count = 0
        for many in (4, 8, 12):
            thing = object_of(unit, {"main": colours_within(chosen(unit[2][1]), many)})
            start = thing[3][1][3]
            for at in range(start, len(thing[1])):
                name, one, other, third = decode(thing[1][at])
                saved = (1, 8, 9) + tuple(range(18, 28))
                if name == "sw" and one == 2 and other in saved or name == "lw" and other == 2 and one in saved or (name, one, other) == ("addi", 2, 2):
                    bad = thing[:1] + (thing[1][:at] + (encode(NOP),) + thing[1][at + 1:],) + thing[2:]
                    self.assertEqual(wrong_object(bad)[0], "main", (at, name, one, other, third))
                    count += 1
        self.assertGreater(count, 20)

    def test_random_changes_are_told_or_harmless(self):
        """Whatever is let by comes to its ends; what is told stands in the function."""
        for seed in range(60):
            numbers = random.Random(seed)
            thing = object_of(random_unit(seed, tame=True))
            for _ in range(15):
                at = numbers.randrange(len(thing[1]))
                word = thing[1][at] ^ 1 << numbers.randrange(32)
                found = wrong_object(thing[:1] + (thing[1][:at] + (word,) + thing[1][at + 1:],) + thing[2:])
                if found is not None:
                    self.assertEqual(len(found), 3)
                    self.assertIn(found[0], [told[0] for told in thing[3]])
                    self.assertTrue(0 <= found[2] < len(thing[1]))

    def test_the_same_again(self):
        thing = object_of(random_unit(3))
        self.assertEqual(wrong_object(thing), wrong_object(thing))
        low = chosen(random_unit(3)[2][-1])
        self.assertEqual(colours_of(low), colours_of(low))


if __name__ == "__main__":
    unittest.main()

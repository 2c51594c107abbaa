"""[52]: instructions as texts, and listings."""

import random
import unittest

from trueimage.errors import BadForm
from trueimage.forms import decode, encode
from trueimage.listing import instruction_by, instruction_text, listing, word_text

REGISTERS = (
    "zero ra sp gp tp t0 t1 t2 s0 s1 a0 a1 a2 a3 a4 a5 a6 a7 s2 s3 s4 s5 s6 s7 s8 s9 s10 s11 t3 t4 t5 t6").split()
THREES = "add sub sll slt sltu xor srl sra or and mul mulh mulhsu mulhu div divu rem remu".split()
NUMBERED = "addi slti sltiu xori ori andi jalr".split()
LOADS = "lb lh lw lbu lhu".split()
STORES = "sb sh sw".split()
SHIFTS = "slli srli srai".split()
BRANCHES = "beq bne blt bge bltu bgeu".split()
# Instructions and their texts, as the document has them.
KNOWN = (
    (("addi", 10, 0, 1), "addi a0, zero, 1"), (("lw", 10, 2, 8), "lw a0, 8(sp)"), (("sw", 2, 10, 8), "sw a0, 8(sp)"), (("jal", 1, 16, 0), "jal ra, 16"),
    (("lui", 5, 1048575, 0), "lui t0, 1048575"), (("auipc", 31, 0, 0), "auipc t6, 0"), (("ecall", 0, 0, 0), "ecall"), (("ebreak", 0, 0, 0), "ebreak"),
    (("fence", 0, 0, 0), "fence"), (("add", 1, 2, 3), "add ra, sp, gp"), (("jalr", 0, 1, 0), "jalr zero, ra, 0"), (("beq", 8, 9, -4096), "beq s0, s1, -4096"),
    (("srai", 28, 27, 31), "srai t3, s11, 31"), (("sb", 18, 17, -2048), "sb a7, -2048(s2)"), (("lbu", 4, 7, 2047), "lbu tp, 2047(t2)"),
    (("sltiu", 6, 6, -1), "sltiu t1, t1, -1"), (("bgeu", 0, 31, 4094), "bgeu zero, t6, 4094"), (("jal", 0, -1048576, 0), "jal zero, -1048576"),
)


def instructions():
    """Instructions of each name with the least and the greatest numbers and registers."""
    for name in THREES:
        yield from ((name, one, other, third) for one in (0, 13, 31) for other in (0, 31) for third in (0, 31))
    for names, bounds in ((NUMBERED + LOADS + STORES, (-2048, -1, 0, 2047)), (SHIFTS, (0, 31)), (BRANCHES, (-4096, -2, 0, 4094))):
        for name in names:
            yield from ((name, one, other, number) for one in (0, 13, 31) for other in (0, 31) for number in bounds)
    for one in (0, 1, 31):
        yield from (("jal", one, number, 0) for number in (-2 ** 20, -2, 0, 2 ** 20 - 2))
        yield from ((name, one, number, 0) for name in ("lui", "auipc") for number in (0, 1, 2 ** 20 - 1))
    yield from ((name, 0, 0, 0) for name in ("ecall", "ebreak", "fence"))


class TextTest(unittest.TestCase):
    def wrong(self, text):
        with self.assertRaises(BadForm, msg=text) as caught:
            instruction_by(text)
        self.assertIs(caught.exception.thing, text)

    def test_known_texts(self):
        for instruction, text in KNOWN:
            self.assertEqual(instruction_text(instruction), text)
            self.assertEqual(instruction_by(text), instruction)
            self.assertEqual(word_text(encode(instruction)), text)

    def test_each_name_at_its_bounds(self):
        seen = {}
        for instruction in instructions():
            text = instruction_text(instruction)
            self.assertEqual(instruction_by(text), instruction)
            self.assertNotIn(text, seen)
            seen[text] = instruction
        self.assertEqual(len({instruction[0] for instruction in seen.values()}), 48)

    def test_each_register(self):
        for number, name in enumerate(REGISTERS):
            for instruction, text in (
                (("sub", number, 1, 2), "sub " + name + ", ra, sp"), (("sub", 1, number, 2), "sub ra, " + name + ", sp"),
                (("sub", 1, 2, number), "sub ra, sp, " + name), (("lui", number, 7, 0), "lui " + name + ", 7"), (("lh", number, 2, 4), "lh " + name + ", 4(sp)"),
                (("lh", 2, number, 4), "lh sp, 4(" + name + ")"), (("sh", 2, number, 4), "sh " + name + ", 4(sp)"), (("sh", number, 2, 4), "sh sp, 4(" + name + ")"),
                (("bne", number, 2, 8), "bne " + name + ", sp, 8"),
            ):
                self.assertEqual(instruction_text(instruction), text)
                self.assertEqual(instruction_by(text), instruction)

    def test_texts_near_to_right_ones(self):
        for text in ("", " ", "add", "add ", "nop", "addi a0, zero", "addi a0, zero, 1, 2", "addi a0, zero, 1 ", " addi a0, zero, 1", "addi  a0, zero, 1",
                     "addi a0,zero, 1", "addi a0 , zero, 1", "addi a0, zero,  1", "addi a0, zero, +1", "addi a0, zero, 01", "addi a0, zero, -0", "addi a0, zero, 0x1",
                     "addi a0, zero, 1.0", "addi a0, zero, a1", "addi a0, zero, --1", "addi a0, zero, -", "addi a0, zero, ", "addi a0, zero, 2048",
                     "addi a0, zero, -2049", "addi x10, zero, 1", "addi fp, zero, 1", "addi A0, zero, 1", "ADDI a0, zero, 1", "addi a8, zero, 1", "addi 10, 0, 1",
                     "add a0, a1, 5", "add a0, a1", "add a0, a1, a2, a3", "slli a0, a1, 32", "slli a0, a1, -1", "lw a0, 8 (sp)", "lw a0, 8(sp", "lw a0, 8sp)",
                     "lw a0, 8(sp))", "lw a0, (sp)", "lw a0, 8()", "lw a0, sp, 8", "lw 8(sp), a0", "lw a0, 8(sp), 0", "lw a0, 2048(sp)", "sw a0, 8(sp) ", "sw a0",
                     "lw", "lw a0", "lui a0", "lui a0, -1", "lui a0, 1048576", "lui a0, 5, 0", "jal ra", "jal ra, 1", "jal ra, 1048576", "jal ra, 16, 0", "jal 16",
                     "beq a0, a1, 4096", "beq a0, a1, 3", "beq a0, a1", "ecall ", "ecall 0", "ecall 0, 0, 0", "Ecall", "ecalls", "word 0", "word 5", "addi\ta0, zero, 1",
                     "addi a0, zero, 1\n", "addi a0, zero, " + "1" * 5000, "addi a0, zero, 1\u0661", "addi a0, zero, \u0661", "4096: addi a0, zero, 1",
                     "  addi a0, zero, 1", "None", "jalr zero, 0(ra)", "jalr ra", "fence 0", "addi a0, zero, 1_0", "addi a0, zero, 1e1"):
            self.wrong(text)

    def test_changed_texts(self):
        numbers = random.Random(5)
        signs = "abcdefghijklmnopqrstuvwxyz0123456789 ,()-"
        told = [instruction_text(instruction) for instruction in instructions()]
        for text in told:
            at = numbers.randrange(len(text))
            for changed in (text[:at] + text[at + 1:], text[:at] + numbers.choice(signs) + text[at:], text[:at] + numbers.choice(signs) + text[at + 1:], text[:at]):
                try:
                    instruction = instruction_by(changed)
                except BadForm as error:
                    self.assertEqual(error.thing, changed)
                else:
                    self.assertEqual(instruction_text(instruction), changed)

    def test_values_that_are_no_strings(self):
        for thing in (None, 5, b"ecall", ["ecall"], ("ecall", 0, 0, 0), True, {"ecall": 1}):
            self.wrong(thing)


class ListingTest(unittest.TestCase):
    def test_words_that_are_no_instruction(self):
        for word in (0, 5, 2 ** 32 - 1, 0x0000100f):
            self.assertIsNone(decode(word))
            self.assertEqual(word_text(word), "word " + str(word))

    def test_listings(self):
        words = [encode(instruction) for instruction, _ in KNOWN] + [0]
        for base in (0, 4096, 2 ** 28):
            expected = [f"{base + 4 * at}: {text}" for at, (_, text) in enumerate(KNOWN)] + [f"{base + 4 * len(KNOWN)}: word 0"]
            self.assertEqual(listing(tuple(words), base), expected)
            self.assertEqual(listing(words, base), expected)
        self.assertEqual(listing((), 16), [])

    def test_random_words(self):
        numbers = random.Random(3)
        for _ in range(4000):
            word = numbers.getrandbits(32)
            if numbers.random() < 0.7:
                word = word & ~127 | numbers.choice((51, 19, 3, 103, 35, 99, 55, 23, 111, 115, 15))
            text = word_text(word)
            if decode(word) is None:
                self.assertEqual(text, f"word {word}")
            else:
                self.assertEqual(encode(instruction_by(text)), word)


if __name__ == "__main__":
    unittest.main()

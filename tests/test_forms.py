"""[51]: instructions and their words."""

import random
import unittest

from trueimage.errors import BadForm
from trueimage.forms import decode, encode

THREES = "add sub sll slt sltu xor srl sra or and mul mulh mulhsu mulhu div divu rem remu".split()
NUMBERED = "addi slti sltiu xori ori andi lb lh lw lbu lhu jalr".split()
SHIFTS = "slli srli srai".split()
STORES = "sb sh sw".split()
BRANCHES = "beq bne blt bge bltu bgeu".split()
UPPERS = "lui auipc".split()
WHOLE = "ecall ebreak fence".split()
# Words as other assemblers make them.
KNOWN = (
    (("addi", 1, 2, -1), 4293984403), (("beq", 0, 0, -4), 4261416675), (("add", 1, 2, 3), 3211443), (("fence", 0, 0, 0), 267386895),
    (("ecall", 0, 0, 0), 115), (("ebreak", 0, 0, 0), 1048691), (("lui", 5, 0xfffff, 0), 0xfffff2b7), (("auipc", 31, 1, 0), 0x00001f97),
    (("jal", 1, 2048, 0), 0x001000ef), (("jal", 0, -2, 0), 0xfffff06f), (("jalr", 0, 1, 0), 0x00008067), (("sw", 2, 10, 8), 0x00a12423),
    (("lw", 10, 2, 8), 0x00812503), (("sub", 5, 6, 7), 0x407302b3), (("srai", 5, 6, 31), 0x41f35293), (("bgeu", 30, 31, 4094), 0x7fff7fe3),
    (("blt", 1, 2, -4096), 0x8020c063), (("mulhsu", 8, 9, 10), 0x02a4a433), (("remu", 8, 9, 10), 0x02a4f433), (("sb", 1, 2, -2048), 0x80208023),
    (("lhu", 3, 4, 2047), 0x7ff25183), (("sltiu", 7, 8, 1), 0x00143393), (("sra", 1, 1, 1), 0x4010d0b3), (("xori", 6, 6, -1), 0xfff34313),
)


class FormsTest(unittest.TestCase):
    def right(self, instruction):
        word = encode(instruction)
        self.assertTrue(isinstance(word, int) and 0 <= word < 2 ** 32)
        self.assertEqual(decode(word), instruction)
        return word

    def wrong(self, instruction):
        with self.assertRaises(BadForm, msg=instruction) as caught:
            encode(instruction)
        self.assertEqual(caught.exception.thing, instruction)

    def number_bounds(self, name):
        """The least and the greatest number of an instruction, and the steps between numbers."""
        if name in NUMBERED + STORES:
            return -2048, 2047, 1
        if name in SHIFTS:
            return 0, 31, 1
        return (-4096, 4094, 2) if name in BRANCHES else (0, 31, 1)

    def test_known_words(self):
        for instruction, word in KNOWN:
            self.assertEqual(encode(instruction), word, instruction)
            self.assertEqual(decode(word), instruction)
        self.assertIsNone(decode(0))

    def test_three_parts(self):
        words = set()
        for name in THREES + NUMBERED + SHIFTS + STORES + BRANCHES:
            least, greatest, step = self.number_bounds(name)
            for one in (0, 1, 15, 16, 31):
                for other in (0, 1, 31):
                    for third in {least, least + step, 0, step, greatest // 2 * step // step & ~1, greatest - step, greatest}:
                        words.add(self.right((name, one, other, third)))
            self.wrong((name, 0, 0, least - step))
            self.wrong((name, 0, 0, greatest + step))
            for wrong in (-1, 32, True, False, "1", None, 1.0, (1,)):
                self.wrong((name, wrong, 1, 0))
                self.wrong((name, 1, wrong, 0))
                if wrong not in (-1,) or least == 0:
                    if wrong != 32 or greatest == 31:
                        self.wrong((name, 1, 1, wrong))
        self.assertGreater(len(words), 2000)
        for name in BRANCHES:
            for distance in (1, -1, 3, 4093, -4095):
                self.wrong((name, 1, 1, distance))

    def test_two_parts(self):
        for name in UPPERS:
            for one in (0, 1, 31):
                for number in (0, 1, 2 ** 19, 2 ** 20 - 1):
                    self.right((name, one, number, 0))
            for instruction in ((name, 32, 0, 0), (name, -1, 0, 0), (name, 1, -1, 0), (name, 1, 2 ** 20, 0), (name, 1, 1, 1), (name, 1, 1, None),
                                (name, 1, 1, False), (name, True, 1, 0), (name, 1, True, 0)):
                self.wrong(instruction)
        for one in (0, 1, 31):
            for distance in (0, 2, -2, 4, 2046, 2048, 4096, -2 ** 20, 2 ** 20 - 2, 2 ** 19, -2 ** 19):
                self.right(("jal", one, distance, 0))
        for instruction in (("jal", 32, 0, 0), ("jal", 1, 1, 0), ("jal", 1, -3, 0), ("jal", 1, 2 ** 20, 0), ("jal", 1, -2 ** 20 - 2, 0), ("jal", 1, 0, 1),
                            ("jal", 1, 2 ** 20 - 1, 0), ("jal", True, 0, 0), ("jal", 1, False, 0)):
            self.wrong(instruction)

    def test_whole_words(self):
        for name in WHOLE:
            self.right((name, 0, 0, 0))
            for parts in ((1, 0, 0), (0, 1, 0), (0, 0, 1), (False, 0, 0), (0, None, 0), (0, 0, -1)):
                self.wrong((name, *parts))

    def test_values_that_are_no_instruction(self):
        for thing in (("nop", 0, 0, 0), ("", 0, 0, 0), (None, 0, 0, 0), (5, 0, 0, 0), ("ADD", 1, 2, 3), ("add", 1, 2), ("add", 1, 2, 3, 4), (), ["add", 1, 2, 3],
                      "add", None, 5, (["add"], 1, 2, 3), (("add",), 1, 2, 3), ("ecall",), ("jal", 0, 4), {"add": 1}):
            self.wrong(thing)

    def test_words_with_one_bit_turned(self):
        instructions = [instruction for instruction, _ in KNOWN]
        numbers = random.Random(1)
        for name in THREES + NUMBERED + SHIFTS + STORES:
            instructions.append((name, numbers.randrange(32), numbers.randrange(32), numbers.randrange(32)))
        lost = kept = 0
        for instruction in instructions:
            for bit in range(32):
                word = encode(instruction) ^ 1 << bit
                other = decode(word)
                if other is None:
                    lost += 1
                else:
                    kept += 1
                    self.assertNotEqual(other, instruction)
                    self.assertEqual(encode(other), word)
        self.assertGreater(min(lost, kept), 200)

    def test_random_words(self):
        numbers = random.Random(2)
        found = 0
        for _ in range(30000):
            word = numbers.getrandbits(32)
            if numbers.random() < 0.7:
                word = word & ~127 | numbers.choice((51, 19, 3, 103, 35, 99, 55, 23, 111, 115, 15))
            if numbers.random() < 0.5:
                word &= ~(125 << 25)
            instruction = decode(word)
            if instruction is not None:
                self.assertEqual(encode(instruction), word)
                found += 1
        self.assertGreater(found, 10000)

    def test_words_that_are_none(self):
        for word in (0, 2 ** 32 - 1, 0x0000100f, 0x0ff0000f ^ 1 << 20, 0x00200073, 0x30200073, 0x10500073, 0x00002063, 0x00003003, 0x00003023, 0x00001067,
                     0x00000007, 0x0000003b, 0x40001013, 0x04000033, 0x40001033, 0x42000033, 0x0000200f):
            self.assertIsNone(decode(word), hex(word))


if __name__ == "__main__":
    unittest.main()

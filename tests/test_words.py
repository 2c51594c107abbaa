"""[3]: words."""

import unittest

from trueimage.words import apply, signed, word_of

ENDS = (0, 1, 2, 7, 31, 32, 33, 255, 65535, 65536, 2147483646, 2147483647, 2147483648, 2147483649, 4294967294, 4294967295)
TWO32 = 2 ** 32


def as_signed(word):
    return word - TWO32 if word & 0x80000000 else word


def truncated(a, b):
    """a divided by b, rounded towards 0."""
    quotient = a // b
    if quotient < 0 and quotient * b != a:
        quotient += 1
    return quotient


def expected(kind, a, b):
    x, y = as_signed(a), as_signed(b)
    table = {
        "add": lambda: (a + b) % TWO32,
        "sub": lambda: (a - b) % TWO32,
        "mul": lambda: (a * b) % TWO32,
        "and": lambda: int("".join("1" if p == q == "1" else "0" for p, q in zip(f"{a:032b}", f"{b:032b}")), 2),
        "or": lambda: int("".join("0" if p == q == "0" else "1" for p, q in zip(f"{a:032b}", f"{b:032b}")), 2),
        "xor": lambda: int("".join("0" if p == q else "1" for p, q in zip(f"{a:032b}", f"{b:032b}")), 2),
        "shl": lambda: a * 2 ** (b % 32) % TWO32,
        "shr": lambda: a // 2 ** (b % 32),
        "sar": lambda: x // 2 ** (b % 32) % TWO32,
        "lts": lambda: int(x < y),
        "ltu": lambda: int(a < b),
        "eq": lambda: int(a == b),
        "divs": lambda: TWO32 - 1 if b == 0 else truncated(x, y) % TWO32,
        "rems": lambda: a if b == 0 else (x - truncated(x, y) * y) % TWO32,
        "divu": lambda: TWO32 - 1 if b == 0 else a // b,
        "remu": lambda: a if b == 0 else a % b,
    }
    return table[kind]()


KINDS = ("add", "sub", "mul", "and", "or", "xor", "shl", "shr", "sar", "lts", "ltu", "eq", "divs", "rems", "divu", "remu")


class WordsTest(unittest.TestCase):
    def test_word_of(self):
        for number in (0, 1, -1, 2 ** 31, -2 ** 31, 2 ** 32 - 1, 2 ** 32, -2 ** 32, 2 ** 900 + 5, -2 ** 900 - 5):
            self.assertEqual(word_of(number), number % TWO32)

    def test_signed(self):
        told = [signed(word) for word in (0, 1, 2147483647, 2147483648, 4294967294, 4294967295)]
        self.assertEqual(told, [0, 1, 2147483647, -2147483648, -2, -1])

    def test_signed_undoes_word_of(self):
        for word in ENDS:
            self.assertEqual(word_of(signed(word)), word)

    def test_all_kinds_at_the_ends(self):
        for kind in KINDS:
            for a in ENDS:
                for b in ENDS:
                    self.assertEqual(apply(kind, a, b), expected(kind, a, b), (kind, a, b))

    def test_shifts_by_31_32_and_more(self):
        for kind in ("shl", "shr", "sar"):
            self.assertEqual(apply(kind, 2147483649, 32), 2147483649)
            self.assertEqual(apply(kind, 2147483649, 4294967264), 2147483649)
        self.assertEqual([apply(kind, 2147483649, 31) for kind in ("shl", "shr", "sar")], [2147483648, 1, 4294967295])
        self.assertEqual([apply(kind, 2147483649, 63) for kind in ("shl", "shr", "sar")], [2147483648, 1, 4294967295])

    def test_division_by_0(self):
        for a in ENDS:
            told = [apply(kind, a, 0) for kind in ("divs", "divu", "rems", "remu")]
            self.assertEqual(told, [4294967295, 4294967295, a, a])

    def test_least_word_by_minus_one(self):
        self.assertEqual(apply("divs", 2147483648, 4294967295), 2147483648)
        self.assertEqual(apply("rems", 2147483648, 4294967295), 0)

    def test_rests_have_the_sign_of_the_first(self):
        word = word_of
        self.assertEqual(apply("rems", word(-7), 2), word(-1))
        self.assertEqual(apply("rems", 7, word(-2)), 1)
        self.assertEqual(apply("divs", word(-7), 2), word(-3))
        self.assertEqual(apply("divs", 7, word(-2)), word(-3))

    def test_example(self):
        told = [
            word_of(-1), signed(4294967294), apply("sub", 2, 5), apply("sar", 4294967288, 1),
            apply("divs", 4294967289, 2), apply("remu", 7, 0),
        ]
        self.assertEqual(told, [4294967295, -2, 4294967293, 4294967292, 4294967293, 7])


if __name__ == "__main__":
    unittest.main()

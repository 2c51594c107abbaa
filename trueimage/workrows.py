"""Which instructions do a kind of work [41]: with a number in them, where a part is a word that fits."""

from trueimage.words import signed

# The numbers that fit into an instruction.
LEAST = -2048
MOST = 2047
SHIFTS = 31
# The instruction of three registers for a kind of work, and the one with a number for the second part, if there is one.
THREES = {
    "add": "add", "sub": "sub", "mul": "mul", "and": "and", "or": "or", "xor": "xor", "shl": "sll", "shr": "srl",
    "sar": "sra", "lts": "slt", "ltu": "sltu", "divs": "div", "rems": "rem", "divu": "divu", "remu": "remu",
}
NUMBERED = {"add": "addi", "and": "andi", "or": "ori", "xor": "xori", "lts": "slti", "ltu": "sltiu"}
SHIFTED = {"shl": "slli", "shr": "srli", "sar": "srai"}
EITHER_WAY_ROUND = ("add", "mul", "and", "or", "xor", "eq")


def work_rows(chooser, row):
    """The rows that do a kind of work."""
    _, value, kind, one, other, place = row
    if kind in EITHER_WAY_ROUND and chooser.word(other) is None:
        one, other = other, one
    word = chooser.word(other)
    if kind == "eq":
        return _equal_rows(chooser, value, one, other, place)
    if word is not None:
        told = _numbered(kind, word)
        if told is not None:
            return [("imm", told[0], value, chooser.operand(one), told[1], place)]
    return [("three", THREES[kind], value, chooser.operand(one), chooser.operand(other), place)]


def _fits(number):
    return LEAST <= number <= MOST


def _numbered(kind, word):
    """The instruction with a number that does a kind of work with a word, and this number; None if there is none."""
    number = signed(word)
    if kind in SHIFTED:
        return SHIFTED[kind], word & SHIFTS
    if kind in NUMBERED and _fits(number):
        return NUMBERED[kind], number
    if kind == "sub" and _fits(-number):
        return "addi", -number
    if word == 0 or word & (word - 1) != 0:
        return None
    # The word is a power of 2.
    if kind in ("mul", "divu"):
        return "slli" if kind == "mul" else "srli", word.bit_length() - 1
    if kind == "remu" and _fits(word - 1):
        return "andi", word - 1
    return None


def _equal_rows(chooser, value, one, other, place):
    """The rows that look whether two values are equal: whether what they are unlike by is below 1."""
    word = chooser.word(other)
    unlike = chooser.new_value()
    last = ("imm", "sltiu", value, unlike, 1, place)
    if word is None:
        return [("three", "sub", unlike, chooser.operand(one), chooser.operand(other), place), last]
    number = -signed(word)
    if number == 0:
        return [("imm", "sltiu", value, chooser.operand(one), 1, place)]
    if _fits(number):
        return [("imm", "addi", unlike, chooser.operand(one), number, place), last]
    return [("three", "sub", unlike, chooser.operand(one), chooser.operand(other), place), last]


"""What instructions make of words [51]: those of three registers, those with a number, and branches."""

from trueimage.words import apply, signed, word_of

# The kind of work of an instruction of three registers, and of one with a number.
KINDS = {
    "add": "add", "sub": "sub", "sll": "shl", "slt": "lts", "sltu": "ltu", "xor": "xor", "srl": "shr", "sra": "sar",
    "or": "or", "and": "and", "mul": "mul", "div": "divs", "divu": "divu", "rem": "rems", "remu": "remu",
    "addi": "add", "slti": "lts", "sltiu": "ltu", "xori": "xor", "ori": "or", "andi": "and", "slli": "shl",
    "srli": "shr", "srai": "sar",
}


def made_of(name, one, other):
    """The word that an instruction makes of two words; a number that stands in it is a word, too."""
    if name in KINDS:
        return apply(KINDS[name], one, other)
    high = HIGH_PARTS[name]
    return high(one, other)


def _mulh(one, other):
    return word_of(signed(one) * signed(other) >> 32)


def _mulhsu(one, other):
    return word_of(signed(one) * other >> 32)


def _mulhu(one, other):
    return one * other >> 32


HIGH_PARTS = {"mulh": _mulh, "mulhsu": _mulhsu, "mulhu": _mulhu}


def is_branch_taken(name, one, other):
    """Whether a branch is taken for two words."""
    if name in ("beq", "bne"):
        return (one == other) == (name == "beq")
    if name in ("blt", "bge"):
        return (signed(one) < signed(other)) == (name == "blt")
    return (one < other) == (name == "bltu")

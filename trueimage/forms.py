"""Instructions and their words [51], as the standard of the machine tells."""

from trueimage.errors import BadForm
from trueimage.middleforms import is_number

# For each name its form, the last seven bits of the word, the three bits that part names, and the first seven bits; for
# a whole word the word.
FORMS = {
    "add": ("three", 51, 0, 0), "sub": ("three", 51, 0, 32), "sll": ("three", 51, 1, 0), "slt": ("three", 51, 2, 0),
    "sltu": ("three", 51, 3, 0), "xor": ("three", 51, 4, 0), "srl": ("three", 51, 5, 0), "sra": ("three", 51, 5, 32),
    "or": ("three", 51, 6, 0), "and": ("three", 51, 7, 0), "mul": ("three", 51, 0, 1), "mulh": ("three", 51, 1, 1),
    "mulhsu": ("three", 51, 2, 1), "mulhu": ("three", 51, 3, 1), "div": ("three", 51, 4, 1),
    "divu": ("three", 51, 5, 1), "rem": ("three", 51, 6, 1), "remu": ("three", 51, 7, 1),
    "addi": ("number", 19, 0, 0), "slti": ("number", 19, 2, 0), "sltiu": ("number", 19, 3, 0),
    "xori": ("number", 19, 4, 0), "ori": ("number", 19, 6, 0), "andi": ("number", 19, 7, 0),
    "slli": ("shift", 19, 1, 0), "srli": ("shift", 19, 5, 0), "srai": ("shift", 19, 5, 32),
    "lb": ("number", 3, 0, 0), "lh": ("number", 3, 1, 0), "lw": ("number", 3, 2, 0), "lbu": ("number", 3, 4, 0),
    "lhu": ("number", 3, 5, 0), "jalr": ("number", 103, 0, 0),
    "sb": ("store", 35, 0, 0), "sh": ("store", 35, 1, 0), "sw": ("store", 35, 2, 0),
    "beq": ("branch", 99, 0, 0), "bne": ("branch", 99, 1, 0), "blt": ("branch", 99, 4, 0), "bge": ("branch", 99, 5, 0),
    "bltu": ("branch", 99, 6, 0), "bgeu": ("branch", 99, 7, 0),
    "lui": ("upper", 55, 0, 0), "auipc": ("upper", 23, 0, 0), "jal": ("jump", 111, 0, 0),
    "ecall": ("whole", 115, 115, 0), "ebreak": ("whole", 115, 1048691, 0), "fence": ("whole", 15, 267386895, 0),
}
BY_LAST_BITS = {
    51: (
        "add", "sub", "sll", "slt", "sltu", "xor", "srl", "sra", "or", "and", "mul", "mulh", "mulhsu", "mulhu", "div",
        "divu", "rem", "remu",
    ),
    19: ("addi", "slti", "sltiu", "xori", "ori", "andi", "slli", "srli", "srai"),
    3: ("lb", "lh", "lw", "lbu", "lhu"), 103: ("jalr",), 35: ("sb", "sh", "sw"),
    99: ("beq", "bne", "blt", "bge", "bltu", "bgeu"), 55: ("lui",), 23: ("auipc",), 111: ("jal",),
    115: ("ecall", "ebreak"), 15: ("fence",),
}
MOST_REGISTER = 31
HALF_NUMBER = 2048
HALF_BRANCH = 4096
HALF_JUMP = 1048576


def encode(instruction):
    """The word of an instruction, or BadForm."""
    if not isinstance(instruction, tuple) or len(instruction) != 4 or not isinstance(instruction[0], str):
        raise BadForm(instruction)
    name, one, other, third = instruction
    if name not in FORMS:
        raise BadForm(instruction)
    form, last, part, first = FORMS[name]
    write = WRITERS[form]
    parts = write(one, other, third)
    if parts is None:
        raise BadForm(instruction)
    return parts | last | part << 12 | first << 25 if form != "whole" else part


def _are_registers(one, other, third):
    return all([is_number(thing, 0, MOST_REGISTER) for thing in (one, other, third)])


def _is_distance(thing, half):
    return is_number(thing, -half, half - 1) and thing & 1 == 0


def _write_three(one, other, third):
    return third << 20 | other << 15 | one << 7 if _are_registers(one, other, third) else None


def _write_number(one, other, number):
    if not _are_registers(one, other, 0) or not is_number(number, -HALF_NUMBER, HALF_NUMBER - 1):
        return None
    return (number & 4095) << 20 | other << 15 | one << 7


def _write_store(one, other, number):
    if not _are_registers(one, other, 0) or not is_number(number, -HALF_NUMBER, HALF_NUMBER - 1):
        return None
    return (number >> 5 & 127) << 25 | other << 20 | one << 15 | (number & 31) << 7


def _write_branch(one, other, distance):
    if not _are_registers(one, other, 0) or not _is_distance(distance, HALF_BRANCH):
        return None
    high = (distance >> 12 & 1) << 31 | (distance >> 5 & 63) << 25
    return high | other << 20 | one << 15 | (distance >> 1 & 15) << 8 | (distance >> 11 & 1) << 7


def _write_upper(one, number, nought):
    if not _are_registers(one, 0, 0) or not is_number(number, 0, HALF_JUMP - 1) or not is_number(nought, 0, 0):
        return None
    return number << 12 | one << 7


def _write_jump(one, distance, nought):
    if not _are_registers(one, 0, 0) or not _is_distance(distance, HALF_JUMP) or not is_number(nought, 0, 0):
        return None
    high = (distance >> 20 & 1) << 31 | (distance >> 1 & 1023) << 21
    return high | (distance >> 11 & 1) << 20 | (distance >> 12 & 255) << 12 | one << 7


def _write_whole(one, other, third):
    return 0 if is_number(one, 0, 0) and is_number(other, 0, 0) and is_number(third, 0, 0) else None


def decode(word):
    """The instruction of a word, None if it is none."""
    for name in BY_LAST_BITS.get(word & 127, ()):
        form, _, part, first = FORMS[name]
        if form == "whole":
            found = word == part
        elif form in ("upper", "jump"):
            found = True
        else:
            found = word >> 12 & 7 == part and (form not in ("three", "shift") or word >> 25 == first)
        if found:
            read = READERS[form]
            return (name,) + read(word)
    return None


def _with_sign(number, half):
    """A number of bits that has a sign."""
    return number - 2 * half if number >= half else number


def _read_three(word):
    return word >> 7 & 31, word >> 15 & 31, word >> 20 & 31


def _read_number(word):
    return word >> 7 & 31, word >> 15 & 31, _with_sign(word >> 20, HALF_NUMBER)


def _read_store(word):
    return word >> 15 & 31, word >> 20 & 31, _with_sign((word >> 25) << 5 | word >> 7 & 31, HALF_NUMBER)


def _read_branch(word):
    distance = (word >> 31) << 12 | (word >> 7 & 1) << 11 | (word >> 25 & 63) << 5 | (word >> 8 & 15) << 1
    return word >> 15 & 31, word >> 20 & 31, _with_sign(distance, HALF_BRANCH)


def _read_upper(word):
    return word >> 7 & 31, word >> 12, 0


def _read_jump(word):
    distance = (word >> 31) << 20 | (word >> 12 & 255) << 12 | (word >> 20 & 1) << 11 | (word >> 21 & 1023) << 1
    return word >> 7 & 31, _with_sign(distance, HALF_JUMP), 0


def _read_whole(word):
    return 0, 0, 0


WRITERS = {
    "three": _write_three, "number": _write_number, "shift": _write_three, "store": _write_store,
    "branch": _write_branch, "upper": _write_upper, "jump": _write_jump, "whole": _write_whole,
}
READERS = {
    "three": _read_three, "number": _read_number, "shift": _read_three, "store": _read_store, "branch": _read_branch,
    "upper": _read_upper, "jump": _read_jump, "whole": _read_whole,
}

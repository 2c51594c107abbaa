"""What each instruction does to a machine [60]."""

from trueimage.frames import ARGS, DEED
from trueimage.instructionwork import is_branch_taken, made_of
from trueimage.words import GREATEST, word_of

BYTES = 4
# How many bytes a load or a store is about, and whether a load goes with a sign.
SIZES = {
    "lb": (1, True), "lh": (2, True), "lw": (4, False), "lbu": (1, False), "lhu": (2, False), "sb": (1, False),
    "sh": (2, False), "sw": (4, False),
}
# The greatest word of so many bytes.
GREATEST_OF = {1: 255, 2: 65535, 4: GREATEST}


def do_instruction(processor, instruction):
    """A processor does an instruction."""
    processor.steps += 1
    processor.next_pc = word_of(processor.pc + BYTES)
    deed = DEEDS[instruction[0]]
    deed(processor, instruction)
    if processor.ended is None:
        processor.pc = processor.next_pc


def _three(processor, instruction):
    name, goal, one, other = instruction
    registers = processor.registers
    processor.put(goal, made_of(name, registers[one], registers[other]))


def _number(processor, instruction):
    name, goal, one, number = instruction
    processor.put(goal, made_of(name, processor.registers[one], word_of(number)))


def _load(processor, instruction):
    name, goal, base, number = instruction
    many, with_sign = SIZES[name]
    words, at, ahead = _find(processor, base, number, many)
    if words is not None:
        greatest = GREATEST_OF[many]
        word = words[at] >> ahead & greatest
        if with_sign and word > greatest // 2:
            word = word_of(word - greatest - 1)
        processor.put(goal, word)


def _store(processor, instruction):
    name, base, source, number = instruction
    many, _ = SIZES[name]
    words, at, ahead = _find(processor, base, number, many)
    if words is not None:
        greatest = GREATEST_OF[many]
        words[at] = words[at] & ~(greatest << ahead) | (processor.registers[source] & greatest) << ahead


def _find(processor, base, number, many):
    """The words, the place in them, and the bits ahead in the word, of bytes in memory; outside it goes astray."""
    address = word_of(processor.registers[base] + number)
    words, at = processor.memory.find(address, many)
    if words is None:
        processor.go_astray()
    # The last bits of a word stand first.
    return words, at, 8 * (address & (BYTES - 1))


def _branch(processor, instruction):
    name, one, other, distance = instruction
    if is_branch_taken(name, processor.registers[one], processor.registers[other]):
        processor.next_pc = word_of(processor.pc + distance)


def _lui(processor, instruction):
    processor.put(instruction[1], instruction[2] << 12)


def _auipc(processor, instruction):
    processor.put(instruction[1], word_of(processor.pc + (instruction[2] << 12)))


def _jal(processor, instruction):
    processor.put(instruction[1], processor.next_pc)
    processor.next_pc = word_of(processor.pc + instruction[2])


def _jalr(processor, instruction):
    _, goal, base, number = instruction
    # The base may be the goal, so it is read first.
    target = word_of(processor.registers[base] + number) & ~1
    processor.put(goal, processor.next_pc)
    processor.next_pc = target


def _ecall(processor, instruction):
    deed = processor.registers[DEED]
    if deed == 0:
        processor.ended = ("answer", processor.registers[ARGS])
    elif deed == 1:
        processor.outputs.append(processor.registers[ARGS])
    elif deed == 2:
        _take(processor)
    elif deed == 3:
        processor.put(ARGS, 1 if processor.taken < len(processor.inputs) else 0)
    else:
        processor.go_astray()


def _take(processor):
    """The next input is taken."""
    if processor.taken == len(processor.inputs):
        processor.trap("input")
    else:
        processor.put(ARGS, processor.inputs[processor.taken])
        processor.taken += 1


def _ebreak(processor, instruction):
    if processor.pc in processor.traps:
        processor.trap(processor.traps[processor.pc])
    else:
        processor.go_astray()


def _fence(processor, instruction):
    pass


DEEDS = {
    "add": _three, "sub": _three, "sll": _three, "slt": _three, "sltu": _three, "xor": _three, "srl": _three,
    "sra": _three, "or": _three, "and": _three, "mul": _three, "mulh": _three, "mulhsu": _three, "mulhu": _three,
    "div": _three, "divu": _three, "rem": _three, "remu": _three,
    "addi": _number, "slti": _number, "sltiu": _number, "xori": _number, "ori": _number, "andi": _number,
    "slli": _number, "srli": _number, "srai": _number,
    "lb": _load, "lh": _load, "lw": _load, "lbu": _load, "lhu": _load, "sb": _store, "sh": _store, "sw": _store,
    "beq": _branch, "bne": _branch, "blt": _branch, "bge": _branch, "bltu": _branch, "bgeu": _branch,
    "lui": _lui, "auipc": _auipc, "jal": _jal, "jalr": _jalr, "ecall": _ecall, "ebreak": _ebreak, "fence": _fence,
}

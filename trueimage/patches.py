"""Patches [55]: which instructions they go with."""

HIGH = "high"
LOW = "low"
JUMP = "jump"
LIMIT = "limit"
# For each kind of patch the names of the instructions into which it puts something.
INSTRUCTIONS = {
    HIGH: ("lui",), JUMP: ("jal",), LIMIT: ("addi",),
    LOW: (
        "addi", "slti", "sltiu", "xori", "ori", "andi", "lb", "lh", "lw", "lbu", "lhu", "jalr", "sb", "sh", "sw",
    ),
}


def goes_with(kind, instruction):
    """Whether a patch of a kind goes with an instruction, or with None for a word that is none."""
    return kind in INSTRUCTIONS and instruction is not None and instruction[0] in INSTRUCTIONS[kind]

"""Instructions as texts, and listings of words [52]."""

from trueimage.errors import BadForm
from trueimage.forms import FORMS, decode, encode

REGISTERS = (
    "zero", "ra", "sp", "gp", "tp", "t0", "t1", "t2", "s0", "s1", "a0", "a1", "a2", "a3", "a4", "a5", "a6", "a7",
    "s2", "s3", "s4", "s5", "s6", "s7", "s8", "s9", "s10", "s11", "t3", "t4", "t5", "t6",
)
LOADS = ("lb", "lh", "lw", "lbu", "lhu")
FIGURES = "0123456789"
# No number of an instruction has more signs.
MOST_SIGNS = 8
BYTES = 4


def instruction_text(instruction):
    """The text of an instruction."""
    encode(instruction)
    name, one, other, third = instruction
    form = FORMS[name][0]
    if form == "whole":
        return name
    if form == "store":
        return f"{name} {REGISTERS[other]}, {third}({REGISTERS[one]})"
    if name in LOADS:
        return f"{name} {REGISTERS[one]}, {third}({REGISTERS[other]})"
    if form in ("upper", "jump"):
        return f"{name} {REGISTERS[one]}, {other}"
    last = REGISTERS[third] if form == "three" else third
    return f"{name} {REGISTERS[one]}, {REGISTERS[other]}, {last}"


def instruction_by(text):
    """The instruction with this text, or BadForm."""
    if not isinstance(text, str):
        raise BadForm(text)
    instruction = _parts_put(text)
    try:
        written = instruction_text(instruction)
    except BadForm:
        written = None
    # What was read too freely gives another text.
    if written != text:
        raise BadForm(text)
    return instruction


def _parts_put(text):
    """The name and the parts that a text tells, read freely, with None for what it doesn't tell."""
    name, _, rest = text.partition(" ")
    form = FORMS[name][0] if name in FORMS else None
    if form == "whole":
        return name, 0, 0, 0
    parts = rest.split(", ")
    if form == "store" or name in LOADS:
        number, _, register_told = parts[-1].partition("(")
        base = _register(register_told.removesuffix(")"))
        first = _register(parts[0])
        return (name,) + ((base, first) if form == "store" else (first, base)) + (_number(number),)
    if form in ("upper", "jump"):
        return name, _register(parts[0]), _number(parts[-1]), 0
    if form is None or len(parts) != 3:
        return None, 0, 0, 0
    last = _register(parts[2]) if form == "three" else _number(parts[2])
    return name, _register(parts[0]), _register(parts[1]), last


def _register(text):
    return REGISTERS.index(text) if text in REGISTERS else None


def _number(text):
    """The number that a row of figures tells, perhaps with a sign ahead, or None."""
    figures = text.removeprefix("-")
    if figures == "" or len(text) > MOST_SIGNS or not all([figure in FIGURES for figure in figures]):
        return None
    return int(text)


def word_text(word):
    """The text of a word: that of its instruction, if it has one."""
    instruction = decode(word)
    return f"word {word}" if instruction is None else instruction_text(instruction)


def listing(words, base):
    """The list of the texts of words, each with its address, which are counted on from a base."""
    return [f"{base + BYTES * at}: {word_text(word)}" for at, word in enumerate(words)]

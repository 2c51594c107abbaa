"""What is known at a word of code [49]: of registers, and of words of the frame.

What is known is ("first", register), what a register had at first; ("sp", bytes), so many bytes behind the first sp;
("number", word); or None.
"""

from trueimage.colourforms import KEPT
from trueimage.frames import RA, SP
from trueimage.words import signed, word_of

FIRST = "first"
NUMBER = "number"
REGISTERS = 32
# What a function keeps beside sp, and what a call may change; the registers 3 and 4 are never changed.
SAVED = (RA,) + KEPT
CHANGED = (1, 5, 6, 7, 10, 11, 12, 13, 14, 15, 16, 17, 28, 29, 30, 31)
WORD_MASK = -4


class CodeState:
    """What is known of the registers, and, by their bytes behind the first sp, of words of the frame."""

    def __init__(self):
        self.registers = [(FIRST, number) for number in range(REGISTERS)]
        self.registers[0] = (NUMBER, 0)
        self.registers[SP] = ("sp", 0)
        self.frame = {}

    def same(self):
        """Another state in which the same is known."""
        other = CodeState()
        other.registers = list(self.registers)
        other.frame = dict(self.frame)
        return other

    def meet(self, other):
        """Only what is known in both states stays: whether anything goes."""
        changed = False
        for number, known in enumerate(other.registers):
            if self.registers[number] != known and self.registers[number] is not None:
                self.registers[number] = None
                changed = True
        for at in list(self.frame):
            if self.frame[at] != other.frame.get(at, None):
                del self.frame[at]
                changed = True
        return changed

    def put(self, goal, known):
        """Something is put into a register."""
        if goal != 0:
            self.registers[goal] = known

    def sp(self):
        """How many bytes behind the first sp the register sp stands, None if that isn't known."""
        return self.bytes_behind(SP, 0)

    def bytes_behind(self, base, number):
        """How many bytes behind the first sp an address stands, None if that isn't known."""
        known = plus(self.registers[base], word_of(number))
        return known[1] if known is not None and known[0] == "sp" else None

    def keeps_all(self):
        """Whether sp, ra and the registers that are kept have what they had at first."""
        return self.sp() == 0 and all([self.registers[number] == (FIRST, number) for number in SAVED])

    def call(self):
        """A function was called: it has kept what is to be kept."""
        for number in CHANGED:
            self.registers[number] = None

    def put_word(self, at, known):
        """Something is put into a word of the frame."""
        self.lose(at, 1)
        if known is not None:
            self.frame[at] = known

    def lose(self, at, many):
        """Nothing is known any more of the words in which so many bytes of the frame stand."""
        for start in (at & WORD_MASK, (at + many - 1) & WORD_MASK):
            if start in self.frame:
                del self.frame[start]


def plus(known, word):
    """What is known of something and a word together."""
    if known is None or (known[0] == FIRST and word != 0):
        return None
    if known[0] == FIRST:
        return known
    together = word_of(known[1] + word)
    return (NUMBER, together) if known[0] == NUMBER else ("sp", signed(together))


def worked_out(name, one, other):
    """What is known of what an instruction makes of two things; a number that stands in it is a word, too."""
    if name in ("add", "addi") and other is not None and other[0] == NUMBER:
        return plus(one, other[1])
    if name == "add" and one is not None and one[0] == NUMBER:
        return plus(other, one[1])
    if name == "sub" and other is not None and other[0] == NUMBER:
        return plus(one, word_of(-other[1]))
    return None

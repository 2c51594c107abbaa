"""Frames [47]: what stands where in them, and the words that read and write it.

A frame has, from the stack pointer up, words for spilled values, the saved registers, and the slots.
"""

from trueimage.colourforms import KEPT, REGISTER, WORD
from trueimage.words import signed, word_of

RA = 1
SP = 2
# Registers for steps between.
FIRST = 5
SECOND = 6
THIRD = 7
# The first of those that hand args; the answer, and what is put out or taken in, stand there, too.
ARGS = 10
# The register that tells what an ecall is to do.
DEED = 17
LEAST = -2048
MOST = 2047
BYTES = 4
STEP = 16


def fits(number):
    """Whether a number fits into an instruction."""
    return LEAST <= number <= MOST


def high_part(number):
    """What a lui puts ahead of the last part of a number."""
    return ((number - LEAST) >> 12) & 0xfffff


def low_part(number):
    """The last part of a number, which stands in an instruction."""
    return ((number - LEAST) & 4095) + LEAST


class Frame:
    """The frame of a function of chosen rows with a colouring."""

    def __init__(self, function, colouring):
        self.spots = {value: (kind, number) for value, kind, number in colouring[1]}
        words = 0
        kept = {}
        for kind, number in self.spots.values():
            if kind == WORD:
                words = max(words, number + 1)
            elif number in KEPT:
                kept[number] = True
        calls = [row for _, rows, _ in function[2] for row in rows if row[0] == "call"]
        self.saved = ([RA] if calls else []) + sorted(kept)
        self.start_of_saved = BYTES * words
        self.start_of_slots = self.start_of_saved + BYTES * len(self.saved)
        self.slots = []
        behind = self.start_of_slots
        for many in function[1]:
            self.slots.append(behind)
            behind += BYTES * many
        self.end_of_slots = behind
        self.size = (behind + STEP - 1) // STEP * STEP


class LineMaker:
    """Makes lines; the words for a row have its place."""

    def __init__(self, frame, labels):
        self.frame = frame
        # The first label that no block has.
        self.labels = labels
        self.lines = []
        self.place = None

    def word(self, name, one, other, third):
        """A word comes."""
        self.lines.append(("word", (name, one, other, third), self.place, None, None))

    def patched(self, instruction, kind, name, many):
        """A word comes, into which something is put when it is linked."""
        self.lines.append(("word", instruction, self.place, (kind, name, many), None))

    def trap(self, kind):
        """The run ends here with a trap."""
        self.lines.append(("word", ("ebreak", 0, 0, 0), self.place, None, kind))

    def label(self, number):
        """A label comes."""
        self.lines.append(("label", number))

    def new_label(self):
        """A label that nothing has yet."""
        self.labels += 1
        return self.labels - 1

    def branch(self, name, one, other, label):
        """A branch to a label comes."""
        self.lines.append(("branch", name, one, other, label, self.place))

    def jump(self, label):
        """A jump to a label comes."""
        self.lines.append(("jump", label, self.place))

    def make(self, goal, word):
        """A register becomes a word, which may be told with a sign."""
        number = signed(word_of(word))
        if fits(number):
            self.word("addi", goal, 0, number)
        else:
            self.word("lui", goal, high_part(number), 0)
            if low_part(number) != 0:
                self.word("addi", goal, goal, low_part(number))

    def advance(self, goal, source, number):
        """A register becomes another one and a number; a number that doesn't fit needs the goal, unlike the source."""
        if fits(number):
            self.word("addi", goal, source, number)
        else:
            self.make(goal, number)
            self.word("add", goal, goal, source)

    def move(self, goal, source):
        """A register becomes another one."""
        if goal != source:
            self.word("addi", goal, source, 0)

    def reach(self, base, number, between):
        """The register and the number that tell what stands so far behind another one, if need be by one between."""
        if fits(number):
            return base, number
        self.word("lui", between, high_part(number), 0)
        self.word("add", between, between, base)
        return between, low_part(number)

    def load(self, goal, base, number, between):
        """A register becomes the word so far behind another one."""
        start, rest = self.reach(base, number, between)
        self.word("lw", goal, start, rest)

    def store(self, source, base, number, between):
        """A register is put so far behind another one."""
        start, rest = self.reach(base, number, between)
        self.word("sw", start, source, rest)

    def spot(self, value):
        """The spot of a value, that of the word 0 for -1."""
        return (REGISTER, 0) if value < 0 else self.frame.spots[value]

    def read(self, value, between):
        """The register that has a value, the one between if it stands in the frame."""
        return self.read_spot(self.spot(value), between)

    def read_spot(self, spot, between):
        """The register that has what is in a spot."""
        kind, number = spot
        if kind == WORD:
            self.load(between, SP, BYTES * number, between)
            return between
        return number if kind == REGISTER else THIRD

    def read_into(self, goal, value):
        """A register becomes a value."""
        self.move(goal, self.read(value, goal))

    def home(self, value, between):
        """The register in which a value is made, the one between if it stands in the frame."""
        kind, number = self.spot(value)
        return between if kind == WORD else number

    def keep(self, value, source):
        """A value, made in a register, is put where it stands."""
        self.keep_spot(self.spot(value), source)

    def keep_spot(self, spot, source):
        """What a register has is put into a spot."""
        kind, number = spot
        if kind == WORD:
            self.store(source, SP, BYTES * number, SECOND if source != SECOND else THIRD)
        else:
            self.move(number if kind == REGISTER else THIRD, source)

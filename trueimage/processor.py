"""What both machines have [60]: registers, memory, and how far the run is."""

from trueimage.memory import Memory

BYTES = 4
REGISTERS = 32


class Processor:
    """A run of an image: where it stands, and what it has done so far."""

    def __init__(self, image, inputs):
        words, _, _, _, places, traps, _, _, base = image
        self.words = words
        self.start = base
        self.places = places
        self.traps = dict(traps)
        self.inputs = tuple(inputs)
        self.taken = 0
        self.memory = Memory(image)
        self.pc = base
        # Where it goes on behind the instruction that is done.
        self.next_pc = base
        self.registers = [0] * REGISTERS
        self.outputs = []
        self.steps = 0
        self.ended = None

    def word_number(self):
        """The number of the word of code at which it stands, -1 where no word is."""
        ahead = self.pc - self.start
        if self.pc & (BYTES - 1) != 0 or not 0 <= ahead < BYTES * len(self.words):
            return -1
        return ahead // BYTES

    def put(self, goal, word):
        """A word is put into a register; register 0 stays 0."""
        if goal != 0:
            self.registers[goal] = word

    def go_astray(self):
        """The run goes astray where it stands."""
        self.ended = ("astray", self.pc)

    def trap(self, kind):
        """The run ends with a trap where it stands."""
        self.ended = ("trap", kind, self.places[self.word_number()])


def go_on(processor, most):
    """Steps are made while it goes on and fewer than most were made; the answer tells how it stands then."""
    while processor.ended is None and processor.steps < most:
        processor.step()
    return ("on",) if processor.ended is None else processor.ended


def run_told(processor, most):
    """What a run does that is asked for so many steps: (outputs, ending, steps)."""
    ending = go_on(processor, most)
    return tuple(processor.outputs), ending, processor.steps

"""The ready machine [61]: it reads all words of code once, ahead of the run."""

from trueimage.forms import decode
from trueimage.instructiondeeds import do_instruction
from trueimage.processor import Processor, go_on, run_told

WORD_BYTES = 4


class ReadyMachine(Processor):
    """A machine that runs an image whose words were read ahead."""

    def __init__(self, image, inputs):
        Processor.__init__(self, image, inputs)
        self.instructions = [decode(word) for word in self.words]

    def step(self):
        """One instruction is done."""
        if self.ended is not None:
            return
        number = self.word_number()
        instruction = self.instructions[number] if number >= 0 else None
        if instruction is None:
            self.go_astray()
        else:
            do_instruction(self, instruction)

    def go(self, most):
        """Steps are made while it goes on and fewer than most were made; the answer tells how it stands then."""
        return go_on(self, most)

    def field_at(self, address):
        """The list of words, and the place in it, of a word in memory; (None, 0) elsewhere."""
        return self.memory.find(address, WORD_BYTES)


def run_ready(image, inputs, most):
    """What an image does, its words read ahead: (outputs, ending, steps)."""
    return run_told(ReadyMachine(image, inputs), most)

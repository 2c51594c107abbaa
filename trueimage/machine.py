"""The machine [60]: it reads each word of code when it comes to it."""

from trueimage.forms import decode
from trueimage.instructiondeeds import do_instruction
from trueimage.processor import Processor, go_on, run_told

WORD_BYTES = 4


class Machine(Processor):
    """A machine that runs an image."""

    def step(self):
        """One instruction is done."""
        if self.ended is not None:
            return
        number = self.word_number()
        instruction = decode(self.words[number]) if number >= 0 else None
        if instruction is None:
            self.go_astray()
        else:
            do_instruction(self, instruction)

    def go(self, most):
        """Steps are made while it goes on and fewer than most were made; the answer tells how it stands then."""
        return go_on(self, most)

    def field_at(self, address):
        """The list of words, and the place in it, of a word in memory; (None, 0) elsewhere."""
        return self.memory.find(address, WORD_BYTES)


def run_image(image, inputs, most):
    """What an image does: (outputs, ending, steps)."""
    return run_told(Machine(image, inputs), most)

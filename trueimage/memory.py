"""Memory of a machine [60]: the data and the stack of an image."""

from trueimage.linking import data_start, stack_start

BYTES = 4


class Memory:
    """The words of the data and of the stack, bytes at multiples of their number."""

    def __init__(self, image):
        _, data, stack, _, _, _, _, _, _ = image
        self.data = list(data)
        self.data_start = data_start(image)
        self.data_end = self.data_start + BYTES * len(data)
        self.stack = [0] * ((stack + BYTES - 1) // BYTES)
        self.stack_start = stack_start(image)
        self.stack_end = self.stack_start + stack

    def find(self, address, many):
        """The list of words, and the place in it, in which so many bytes stand; (None, 0) if they aren't in memory."""
        if address & (many - 1) == 0:
            if self.stack_start <= address and address + many <= self.stack_end:
                return self.stack, (address - self.stack_start) // BYTES
            if self.data_start <= address and address + many <= self.data_end:
                return self.data, (address - self.data_start) // BYTES
        return None, 0

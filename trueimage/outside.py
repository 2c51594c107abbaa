"""The outside of a run [28], and how the run stands, for runs of every layer above the machine."""


class Going:
    """A run: its inputs and outputs, its steps, and how it has ended."""

    def __init__(self, inputs, limit):
        self.inputs = inputs
        self.limit = limit
        self.taken = 0
        self.outputs = []
        self.ending = None
        self.steps = 0
        self.functions = {}

    def trap(self, kind, place):
        """The run ends with a trap."""
        self.ending = ("trap", kind, place)

    def take(self, place):
        """The next input; the run ends with a trap if there is none, which gives None."""
        if self.taken == len(self.inputs):
            self.trap("input", place)
            return None
        self.taken += 1
        return self.inputs[self.taken - 1]

    def more(self):
        """1 if there is a next input, else 0."""
        return 1 if self.taken < len(self.inputs) else 0

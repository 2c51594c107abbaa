"""What runs of middle code [20] and of chosen rows [42] have in common.

The open calls are a list, so nothing runs deeper within itself than the program tells.
"""

from trueimage.outside import Going


class RowFrame:
    """An open call: the worths of its values, and the rows of its block from which it goes on."""

    def __init__(self, blocks, worths, args):
        self.blocks = blocks
        self.worths = worths
        self.rows = ()
        self.end_row = ()
        self.at = 0
        self.begin_block(0, args)

    def begin_block(self, number, handed):
        """A block begins, whose params are what is handed."""
        params, self.rows, self.end_row = self.blocks[number]
        self.worths.update(dict(zip(params, handed)))
        self.at = 0

    def all_worths(self, values):
        """What values are."""
        return [self.worths[value] for value in values]

    def go(self, goal, args):
        """Go to a block, to which the worths of these values are handed."""
        self.begin_block(goal, self.all_worths(args))

    def next_row(self):
        """The next row, or the end behind the last one."""
        self.at += 1
        return self.rows[self.at - 1] if self.at <= len(self.rows) else self.end_row

    def last_row(self):
        """The row that was the next one."""
        return self.rows[self.at - 1]


class RowRun(Going):
    """A run, the call that runs, and those that wait for another one."""

    def __init__(self, inputs, limit):
        Going.__init__(self, inputs, limit)
        self.frame = None
        self.waiting = []

    def give_back(self, word):
        """The call that runs ends with an answer, which is that of the run if no other one waits for it."""
        if self.waiting:
            self.frame = self.waiting.pop()
            # In both codes a call's second part is the value that it gives.
            self.frame.worths[self.frame.last_row()[1]] = word
        else:
            self.ending = ("answer", word)


def run_to_end(going, most):
    """Steps are made until a run ends or has made so many: (outputs, ending, steps)."""
    while going.ending is None:
        if going.steps >= most:
            going.ending = ("on",)
        else:
            going.step()
    return tuple(going.outputs), going.ending, going.steps


def do_out(going, frame, row):
    """A word is put out."""
    going.outputs.append(frame.worths[row[1]])


def do_in(going, frame, row):
    """The next input is taken."""
    frame.worths[row[1]] = going.take(row[2])


def do_more(going, frame, row):
    """It is told whether there is a next input."""
    frame.worths[row[1]] = going.more()


def do_go(going, frame, end):
    """A block is gone to."""
    frame.go(end[1], end[2])


def do_trap(going, frame, end):
    """The run ends with a trap."""
    going.trap(end[1], end[2])

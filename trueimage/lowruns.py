"""Runs of chosen rows [42], on words of memory.

The globals stand one behind another, and so do the slots of open calls, each object with a gap behind it in which no
word is.
"""

from trueimage.instructionwork import is_branch_taken, made_of
from trueimage.lowcode import NOUGHT, low_hands
from trueimage.words import word_of

BYTES = 4
GLOBALS_START = 4096
SLOTS_START = 1073741824


def run_low(units, inputs, limit, most):
    """What units of chosen rows do: (outputs, ending, steps)."""
    going = LowRun(units, inputs, limit)
    going.begin("main", (1,))
    while going.ending is None:
        if going.steps >= most:
            going.ending = ("on",)
        else:
            going.step()
    return tuple(going.outputs), going.ending, going.steps


class LowFrame:
    """An open call: its values and slots, and the rows of its block from which it goes on."""

    def __init__(self, function, args):
        self.blocks = function[2]
        params, self.rows, self.end_row = self.blocks[0]
        self.values = {NOUGHT: 0}
        self.values.update(dict(zip(params, args)))
        self.at = 0
        # Where the slots stand in the words of all slots, and where those of this call begin.
        self.slots = []
        self.first = 0

    def go(self, goal, args):
        """Go to a block, to which the worths of these values are handed."""
        handed = self.all_worths(args)
        params, self.rows, self.end_row = self.blocks[goal]
        self.values.update(dict(zip(params, handed)))
        self.at = 0

    def all_worths(self, values):
        """What values are."""
        return [self.values[value] for value in values]


class LowRun:
    """A run of units of chosen rows."""

    def __init__(self, units, inputs, limit):
        self.inputs = inputs
        self.limit = limit
        self.taken = 0
        self.outputs = []
        self.ending = None
        self.steps = 0
        self.functions = {}
        self.addresses = {}
        # The words of the globals, and of the slots of open calls; None where no word is.
        self.things = []
        self.slots = []
        for _, things, functions in units:
            for name, _, words, firsts in things:
                self.addresses[name] = GLOBALS_START + BYTES * len(self.things)
                self.things.extend(list(firsts) + [0] * (words - len(firsts)) + [None])
            for function in functions:
                self.functions[function[0]] = function
        # The call that runs, and those that wait for another one.
        self.frame = None
        self.waiting = []

    def begin(self, name, args):
        """A function begins; the first one of the args is its depth."""
        function = self.functions[name]
        frame = LowFrame(function, args)
        frame.first = len(self.slots)
        for words in function[1]:
            frame.slots.append(SLOTS_START + BYTES * len(self.slots))
            self.slots.extend([0] * words + [None])
        self.frame = frame

    def end_frame(self):
        """The slots of the call that runs are no more."""
        del self.slots[self.frame.first:]

    def step(self):
        """The next row or end is done."""
        self.steps += 1
        frame = self.frame
        if frame.at < len(frame.rows):
            row = frame.rows[frame.at]
            frame.at += 1
            deed = ROWS[row[0]]
            deed(self, frame, row)
        else:
            deed = ENDS[frame.end_row[0]]
            deed(self, frame, frame.end_row)

    def trap(self, kind, place):
        """The run ends with a trap."""
        self.ending = ("trap", kind, place)

    def spot(self, kind, what, behind, place):
        """The words and the place in them that a load or a store tells; the run goes astray where no word is."""
        if kind == "at":
            start = self.frame.values[what]
        else:
            start = self.addresses[what] if kind == "name" else self.frame.slots[what]
        address = word_of(start + behind)
        words, at = self.things, address - GLOBALS_START
        if address >= SLOTS_START:
            words, at = self.slots, address - SLOTS_START
        if at & (BYTES - 1) == 0 and 0 <= at < BYTES * len(words) and words[at // BYTES] is not None:
            return words, at // BYTES
        self.ending = ("astray", place)
        return None, 0


def _set(going, frame, row):
    frame.values[row[1]] = row[2]


def _name(going, frame, row):
    frame.values[row[1]] = going.addresses[row[2]]


def _slot(going, frame, row):
    frame.values[row[1]] = frame.slots[row[2]]


def _three(going, frame, row):
    frame.values[row[2]] = made_of(row[1], frame.values[row[3]], frame.values[row[4]])


def _imm(going, frame, row):
    frame.values[row[2]] = made_of(row[1], frame.values[row[3]], word_of(row[4]))


def _load(going, frame, row):
    words, at = going.spot(row[2], row[3], row[4], row[5])
    if words is not None:
        frame.values[row[1]] = words[at]


def _store(going, frame, row):
    words, at = going.spot(row[2], row[3], row[4], row[5])
    if words is not None:
        words[at] = frame.values[row[1]]


def _must(going, frame, row):
    if not is_branch_taken(row[1], frame.values[row[2]], frame.values[row[3]]):
        going.trap(row[4], row[5])


def _deep(going, frame, row):
    depth = word_of(frame.values[row[2]] + row[3])
    frame.values[row[1]] = depth
    if depth > going.limit:
        going.trap("stack", row[4])


def _call(going, frame, row):
    going.waiting.append(frame)
    going.begin(row[2], frame.all_worths(row[3]))


def _out(going, frame, row):
    going.outputs.append(frame.values[row[1]])


def _in(going, frame, row):
    if going.taken == len(going.inputs):
        going.trap("input", row[2])
    else:
        frame.values[row[1]] = going.inputs[going.taken]
        going.taken += 1


def _more(going, frame, row):
    frame.values[row[1]] = 1 if going.taken < len(going.inputs) else 0


def _go(going, frame, end):
    frame.go(end[1], end[2])


def _branch(going, frame, end):
    is_taken = is_branch_taken(end[1], frame.values[end[2]], frame.values[end[3]])
    goal, args = low_hands(end)[0 if is_taken else 1]
    frame.go(goal, args)


def _return(going, frame, end):
    answer = frame.values[end[1]]
    going.end_frame()
    if going.waiting:
        going.frame = going.waiting.pop()
        # The row ahead of the one that comes next is the call.
        going.frame.values[going.frame.rows[going.frame.at - 1][1]] = answer
    else:
        going.ending = ("answer", answer)


def _tail(going, frame, end):
    args = frame.all_worths(end[2])
    going.end_frame()
    going.begin(end[1], args)


def _trap(going, frame, end):
    going.trap(end[1], end[2])


ROWS = {
    "set": _set, "name": _name, "slot": _slot, "three": _three, "imm": _imm, "load": _load, "store": _store,
    "must": _must, "deep": _deep, "call": _call, "out": _out, "in": _in, "more": _more,
}
ENDS = {"go": _go, "branch": _branch, "return": _return, "tail": _tail, "trap": _trap}

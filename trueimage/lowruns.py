"""Runs of chosen rows [42], on words of memory.

The globals stand one behind another, and so do the slots of open calls, each object with a gap behind it in which no
word is.
"""

from trueimage.instructionwork import is_branch_taken, made_of
from trueimage.lowcode import NOUGHT, low_hands
from trueimage.rowruns import RowFrame, RowRun, do_go, do_in, do_more, do_out, do_trap, run_to_end
from trueimage.words import word_of

BYTES = 4
GLOBALS_START = 4096
SLOTS_START = 1073741824


def run_low(units, inputs, limit, most):
    """What units of chosen rows do: (outputs, ending, steps)."""
    going = LowRun(units, inputs, limit)
    going.begin("main", (1,))
    return run_to_end(going, most)


class LowFrame(RowFrame):
    """An open call of a function, whose slots stand from a place in the words of all slots on."""

    def __init__(self, function, args, first):
        RowFrame.__init__(self, function[2], {NOUGHT: 0}, args)
        self.first = first
        self.slots = []


class LowRun(RowRun):
    """A run of units of chosen rows."""

    def __init__(self, units, inputs, limit):
        RowRun.__init__(self, inputs, limit)
        self.addresses = {}
        # The words of the globals, and of the slots of open calls; None where no word is.
        self.things = []
        self.slots = []
        for _, things, functions in units:
            for name, _, words, firsts in things:
                self.addresses[name] = GLOBALS_START + BYTES * len(self.things)
                self.things.extend(list(firsts) + [0] * (words - len(firsts)) + [None])
            for function in functions:
                self.functions[function[0]] = function

    def begin(self, name, args):
        """A function begins; the first one of the args is its depth."""
        function = self.functions[name]
        frame = LowFrame(function, args, len(self.slots))
        for words in function[1]:
            frame.slots.append(SLOTS_START + BYTES * len(self.slots))
            self.slots.extend([0] * words + [None])
        self.frame = frame

    def end_frame(self):
        """The slots of the call that runs are no more."""
        del self.slots[self.frame.first:]

    def step(self):
        """The next row or end is done."""
        self.steps += 1
        row = self.frame.next_row()
        deed = DEEDS[row[0]]
        deed(self, self.frame, row)

    def spot(self, kind, what, behind, place):
        """The words and the place in them that a load or a store tells; the run goes astray where no word is."""
        if kind == "at":
            start = self.frame.worths[what]
        else:
            start = self.addresses[what] if kind == "name" else self.frame.slots[what]
        address = word_of(start + behind)
        words, at = self.things, address - GLOBALS_START
        if address >= SLOTS_START:
            words, at = self.slots, address - SLOTS_START
        if at & (BYTES - 1) == 0 and 0 <= at < BYTES * len(words) and words[at // BYTES] is not None:
            return words, at // BYTES
        self.ending = ("astray", place)
        return None, 0


def _set(going, frame, row):
    frame.worths[row[1]] = row[2]


def _name(going, frame, row):
    frame.worths[row[1]] = going.addresses[row[2]]


def _slot(going, frame, row):
    frame.worths[row[1]] = frame.slots[row[2]]


def _three(going, frame, row):
    frame.worths[row[2]] = made_of(row[1], frame.worths[row[3]], frame.worths[row[4]])


def _imm(going, frame, row):
    frame.worths[row[2]] = made_of(row[1], frame.worths[row[3]], word_of(row[4]))


def _load(going, frame, row):
    words, at = going.spot(row[2], row[3], row[4], row[5])
    if words is not None:
        frame.worths[row[1]] = words[at]


def _store(going, frame, row):
    words, at = going.spot(row[2], row[3], row[4], row[5])
    if words is not None:
        words[at] = frame.worths[row[1]]


def _must(going, frame, row):
    if not is_branch_taken(row[1], frame.worths[row[2]], frame.worths[row[3]]):
        going.trap(row[4], row[5])


def _deep(going, frame, row):
    depth = word_of(frame.worths[row[2]] + row[3])
    frame.worths[row[1]] = depth
    if depth > going.limit:
        going.trap("stack", row[4])


def _call(going, frame, row):
    going.waiting.append(frame)
    going.begin(row[2], frame.all_worths(row[3]))


def _branch(going, frame, end):
    is_taken = is_branch_taken(end[1], frame.worths[end[2]], frame.worths[end[3]])
    goal, args = low_hands(end)[0 if is_taken else 1]
    frame.go(goal, args)


def _return(going, frame, end):
    going.end_frame()
    going.give_back(frame.worths[end[1]])


def _tail(going, frame, end):
    args = frame.all_worths(end[2])
    going.end_frame()
    going.begin(end[1], args)


DEEDS = {
    "set": _set, "name": _name, "slot": _slot, "three": _three, "imm": _imm, "load": _load, "store": _store,
    "must": _must, "deep": _deep, "call": _call, "out": do_out, "in": do_in, "more": do_more, "go": do_go,
    "branch": _branch, "return": _return, "tail": _tail, "trap": do_trap,
}

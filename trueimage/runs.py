"""Runs of middle code [20].

The open calls are a list, so nothing runs deeper within itself than the program tells. An address is a pair of the list
of an object's words and a place in it, which may stand outside.
"""

from trueimage.errors import BadThing
from trueimage.middleforms import is_number, is_word
from trueimage.middlerows import hands
from trueimage.units import check_unit, wrong_together
from trueimage.words import apply

MOST_LIMIT = 1000
# Places in objects are counted modulo 2 to the 30th power.
MOST_PLACE = 1073741823


def run(units, inputs, limit, most):
    """What units do: (outputs, ending, steps)."""
    _look_at(units, inputs, limit)
    going = Run(units, inputs, limit)
    going.begin("main", (), 1)
    while going.ending is None:
        if going.steps >= most:
            going.ending = ("on",)
        else:
            going.step()
    return tuple(going.outputs), going.ending, going.steps


def _look_at(units, inputs, limit):
    """BadUnit or BadThing for what can't be run."""
    for unit in units:
        check_unit(unit)
    found = wrong_together(units)
    if found:
        raise BadThing(found)
    if not isinstance(inputs, (tuple, list)) or not all([is_word(word) for word in inputs]):
        raise BadThing(inputs)
    if not is_number(limit, 1, MOST_LIMIT):
        raise BadThing(limit)


class Frame:
    """An open call: its depth, values and slots, and the rows of its block from which it goes on."""

    def __init__(self, function, args, depth):
        self.blocks = function[3]
        self.depth = depth
        self.slots = [[0] * words for words in function[2]]
        params, self.rows, self.end_row = self.blocks[0]
        self.values = dict(zip(params, args))
        self.at = 0

    def go(self, goal, args):
        """Go to a block, to which the worths of these values are handed."""
        handed = [self.values[arg] for arg in args]
        params, self.rows, self.end_row = self.blocks[goal]
        self.values.update(dict(zip(params, handed)))
        self.at = 0


class Run:
    """A run of units."""

    def __init__(self, units, inputs, limit):
        self.inputs = inputs
        self.limit = limit
        self.taken = 0
        self.outputs = []
        self.ending = None
        self.steps = 0
        self.functions = {}
        self.things = {}
        for _, things, functions, _ in units:
            for name, _, words, firsts in things:
                self.things[name] = list(firsts) + [0] * (words - len(firsts))
            for function in functions:
                self.functions[function[0]] = function
        # The call that runs, and those that wait for another one.
        self.frame = None
        self.waiting = []

    def begin(self, name, args, depth):
        """A function begins, at a depth; the words of its slots are steps."""
        function = self.functions[name]
        self.frame = Frame(function, args, depth)
        self.steps += sum(function[2])

    def step(self):
        """The next row or end is done."""
        self.steps += 1
        frame = self.frame
        if frame.at < len(frame.rows):
            row = frame.rows[frame.at]
            frame.at += 1
            deed = ROWS[row[0]]
            deed(self, frame, row)
        else:
            deed = ENDS[frame.end_row[0]]
            deed(self, frame, frame.end_row)

    def trap(self, kind, place):
        """The run ends with a trap."""
        self.ending = ("trap", kind, place)

    def call(self, name, args, deeper, place):
        """A function begins so much deeper, or the run ends with a trap."""
        depth = self.frame.depth + deeper
        if depth > self.limit:
            self.trap("stack", place)
            return False
        self.begin(name, [self.frame.values[arg] for arg in args], depth)
        return True

    def spot(self, address, offset, place):
        """The words and the place in them so many words behind an address; the run goes astray where none is."""
        words, at = address
        at = (at + offset) & MOST_PLACE
        if at < len(words):
            return words, at
        self.ending = ("astray", place)
        return None, 0


def _const(going, frame, row):
    frame.values[row[1]] = row[2]


def _op(going, frame, row):
    frame.values[row[1]] = apply(row[2], frame.values[row[3]], frame.values[row[4]])


def _address(going, frame, row):
    what = row[2]
    frame.values[row[1]] = (going.things[what] if isinstance(what, str) else frame.slots[what], 0)


def _index(going, frame, row):
    words, at = frame.values[row[2]]
    frame.values[row[1]] = (words, (at + frame.values[row[3]] * row[4]) & MOST_PLACE)


def _load(going, frame, row):
    words, at = going.spot(frame.values[row[2]], row[3], row[4])
    if words is not None:
        frame.values[row[1]] = words[at]


def _store(going, frame, row):
    words, at = going.spot(frame.values[row[1]], row[2], row[4])
    if words is not None:
        words[at] = frame.values[row[3]]


def _check(going, frame, row):
    if frame.values[row[1]] == 0:
        going.trap(row[2], row[3])


def _call(going, frame, row):
    if going.call(row[2], row[3], row[4], row[5]):
        going.waiting.append(frame)


def _enter(going, frame, row):
    if frame.depth + row[1] > going.limit:
        going.trap("stack", row[2])


def _out(going, frame, row):
    going.outputs.append(frame.values[row[1]])


def _in(going, frame, row):
    if going.taken == len(going.inputs):
        going.trap("input", row[2])
    else:
        frame.values[row[1]] = going.inputs[going.taken]
        going.taken += 1


def _more(going, frame, row):
    frame.values[row[1]] = 1 if going.taken < len(going.inputs) else 0


def _go(going, frame, end):
    frame.go(end[1], end[2])


def _if(going, frame, end):
    goal, args = hands(end)[0 if frame.values[end[1]] != 0 else 1]
    frame.go(goal, args)


def _return(going, frame, end):
    answer = frame.values[end[1]]
    if going.waiting:
        going.frame = going.waiting.pop()
        # The row ahead of the one that comes next is the call.
        going.frame.values[going.frame.rows[going.frame.at - 1][1]] = answer
    else:
        going.ending = ("answer", answer)


def _tail(going, frame, end):
    going.call(end[1], end[2], end[3], end[4])


def _trap(going, frame, end):
    going.trap(end[1], end[2])


ROWS = {
    "const": _const, "op": _op, "address": _address, "index": _index, "load": _load, "store": _store, "check": _check,
    "call": _call, "enter": _enter, "out": _out, "in": _in, "more": _more,
}
ENDS = {"go": _go, "if": _if, "return": _return, "tail": _tail, "trap": _trap}

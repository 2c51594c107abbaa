"""Runs of middle code [20].

An address is a pair of the list of an object's words and a place in it, which may stand outside.
"""

from trueimage.errors import BadThing
from trueimage.middleforms import is_number, is_word
from trueimage.middlerows import hands
from trueimage.rowruns import RowFrame, RowRun, do_go, do_in, do_more, do_out, do_trap, run_to_end
from trueimage.units import check_unit, wrong_together
from trueimage.words import apply

MOST_LIMIT = 1000
# Places in objects are counted modulo 2 to the 30th power.
MOST_PLACE = 1073741823


def run(units, inputs, limit, most):
    """What units do: (outputs, ending, steps)."""
    _look_at(units, inputs, limit)
    going = MiddleRun(units, inputs, limit)
    going.begin("main", (), 1)
    return run_to_end(going, most)


def _look_at(units, inputs, limit):
    """BadUnit or BadThing for what can't be run."""
    for unit in units:
        check_unit(unit)
    found = wrong_together(units)
    if found:
        raise BadThing(found)
    if not isinstance(inputs, (tuple, list)) or not all([is_word(word) for word in inputs]):
        raise BadThing(inputs)
    if not is_number(limit, 1, MOST_LIMIT):
        raise BadThing(limit)


class MiddleFrame(RowFrame):
    """An open call of a function, at a depth, with its slots."""

    def __init__(self, function, args, depth):
        RowFrame.__init__(self, function[3], {}, args)
        self.depth = depth
        self.slots = [[0] * words for words in function[2]]


class MiddleRun(RowRun):
    """A run of units."""

    def __init__(self, units, inputs, limit):
        RowRun.__init__(self, inputs, limit)
        self.things = {}
        for _, things, functions, _ in units:
            for name, _, words, firsts in things:
                self.things[name] = list(firsts) + [0] * (words - len(firsts))
            for function in functions:
                self.functions[function[0]] = function

    def begin(self, name, args, depth):
        """A function begins, at a depth; the words of its slots are steps."""
        function = self.functions[name]
        self.frame = MiddleFrame(function, args, depth)
        self.steps += sum(function[2])

    def step(self):
        """The next row or end is done."""
        self.steps += 1
        row = self.frame.next_row()
        deed = DEEDS[row[0]]
        deed(self, self.frame, row)

    def call(self, name, args, deeper, place):
        """Whether a function begins so much deeper; else the run ends with a trap."""
        depth = self.frame.depth + deeper
        if depth > self.limit:
            self.trap("stack", place)
            return False
        self.begin(name, self.frame.all_worths(args), depth)
        return True

    def spot(self, address, offset, place):
        """The words and the place in them so many words behind an address; the run goes astray where none is."""
        words, at = address
        at = (at + offset) & MOST_PLACE
        if at < len(words):
            return words, at
        self.ending = ("astray", place)
        return None, 0


def _const(going, frame, row):
    frame.worths[row[1]] = row[2]


def _op(going, frame, row):
    frame.worths[row[1]] = apply(row[2], frame.worths[row[3]], frame.worths[row[4]])


def _address(going, frame, row):
    what = row[2]
    frame.worths[row[1]] = (going.things[what] if isinstance(what, str) else frame.slots[what], 0)


def _index(going, frame, row):
    words, at = frame.worths[row[2]]
    frame.worths[row[1]] = (words, (at + frame.worths[row[3]] * row[4]) & MOST_PLACE)


def _load(going, frame, row):
    words, at = going.spot(frame.worths[row[2]], row[3], row[4])
    if words is not None:
        frame.worths[row[1]] = words[at]


def _store(going, frame, row):
    words, at = going.spot(frame.worths[row[1]], row[2], row[4])
    if words is not None:
        words[at] = frame.worths[row[3]]


def _check(going, frame, row):
    if frame.worths[row[1]] == 0:
        going.trap(row[2], row[3])


def _call(going, frame, row):
    if going.call(row[2], row[3], row[4], row[5]):
        going.waiting.append(frame)


def _enter(going, frame, row):
    if frame.depth + row[1] > going.limit:
        going.trap("stack", row[2])


def _if(going, frame, end):
    goal, args = hands(end)[0 if frame.worths[end[1]] != 0 else 1]
    frame.go(goal, args)


def _return(going, frame, end):
    going.give_back(frame.worths[end[1]])


def _tail(going, frame, end):
    going.call(end[1], end[2], end[3], end[4])


DEEDS = {
    "const": _const, "op": _op, "address": _address, "index": _index, "load": _load, "store": _store, "check": _check,
    "call": _call, "enter": _enter, "out": do_out, "in": do_in, "more": do_more, "go": do_go, "if": _if,
    "return": _return, "tail": _tail, "trap": do_trap,
}

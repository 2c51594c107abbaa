"""What programs mean [13] to [15]: a machine that does the rows of checked functions.

The machine has a pile of words and addresses, and no recursion: its calls are a list. An address is a pair of a
list of words, the object's, and a place in it.
"""

from trueimage.kinds import words_of_param
from trueimage.outside import Going
from trueimage.words import apply


class Run(Going):
    """A run of a program."""

    def __init__(self, modules, inputs, limit):
        Going.__init__(self, inputs, limit)
        self.things = {}
        for _, module, _, things, functions in modules:
            for name, _, words, firsts in things:
                self.things[(module, name)] = list(firsts) + [0] * (words - len(firsts))
            for function in functions:
                self.functions[(module, function[0])] = function
        self.pile = []
        # The calls that wait for another one: (rows, place of the next row, cells, slots).
        self.waiting = []
        self.rows = ()
        self.at = 0
        self.cells = []
        self.slots = []

    def begin(self, function):
        """A function's call begins, with its args at the end of the pile."""
        _, _, params, cells, slots, rows = function
        many = sum([words_of_param(param) for param in params])
        args = self.pile[len(self.pile) - many:]
        del self.pile[len(self.pile) - many:]
        self.cells = args + [0] * (cells - many)
        self.slots = [[0] * words for words in slots]
        self.steps += sum(slots)
        self.rows = rows
        self.at = 0


def mean(modules, inputs, limit, most):
    """What a program does: (outputs, ending, steps)."""
    run = Run(modules, inputs, limit)
    mains = [module[1] for module in modules if "main" in [function[0] for function in module[4]]]
    run.begin(run.functions[(mains[0], "main")])
    # The call of main is a step, too.
    run.steps += 1
    while run.ending is None:
        row = run.rows[run.at]
        if row[1] > 0 and run.steps >= most:
            run.ending = ("on",)
        else:
            run.steps += row[1]
            run.at += 1
            deed = DEEDS[row[0]]
            deed(run, row)
    return tuple(run.outputs), run.ending, run.steps


def _begin(run, row):
    pass


def _number(run, row):
    run.pile.append(row[2])


def _read(run, row):
    run.pile.append(run.cells[row[2]])


def _write(run, row):
    run.cells[row[2]] = run.pile.pop()


def _global(run, row):
    run.pile.append((run.things[(row[2], row[3])], 0))


def _slot(run, row):
    run.pile.append((run.slots[row[2]], 0))


def _clear(run, row):
    run.slots[row[2]] = [0] * len(run.slots[row[2]])


def _field(run, row):
    words, at = run.pile.pop()
    run.pile.append((words, at + row[2]))


def _go_to_thing(run, row, length):
    _, _, place, size, _ = row
    index = run.pile.pop()
    words, at = run.pile.pop()
    if index >= length:
        run.trap("bounds", place)
    else:
        run.pile.append((words, at + index * size))


def _index(run, row):
    _go_to_thing(run, row, row[4])


def _within(run, row):
    _go_to_thing(run, row, run.cells[row[4]])


def _load(run, row):
    words, at = run.pile.pop()
    run.pile.append(words[at])


def _store(run, row):
    word = run.pile.pop()
    words, at = run.pile.pop()
    words[at] = word


def _swap(run, row):
    last = run.pile.pop()
    other = run.pile.pop()
    run.pile.extend((last, other))


def _work(run, row):
    last = run.pile.pop()
    other = run.pile.pop()
    run.pile.append(apply(row[2], other, last))


def _divide(run, row):
    if run.pile[-1] == 0:
        run.trap("zero", row[3])
    else:
        _work(run, row)


def _jump(run, row):
    run.at += row[2]


def _if(run, row):
    if run.pile.pop() == 0:
        run.at += row[2]


def _case(run, row):
    if run.pile[-1] == row[3]:
        run.pile.pop()
    else:
        run.at += row[2]


def _drop(run, row):
    run.pile.pop()


def _call(run, row):
    _, _, place, module, name = row
    # The call that runs is open beside those that wait.
    if len(run.waiting) + 1 >= run.limit:
        run.trap("stack", place)
    else:
        run.waiting.append((run.rows, run.at, run.cells, run.slots))
        run.begin(run.functions[(module, name)])


def _leave(run, row):
    run.rows, run.at, run.cells, run.slots = run.waiting.pop()


def _return(run, row):
    if run.waiting:
        _leave(run, row)
    else:
        run.ending = ("answer", run.pile.pop())


def _out(run, row):
    run.outputs.append(run.pile.pop())


def _in(run, row):
    run.pile.append(run.take(row[2]))


def _more(run, row):
    run.pile.append(run.more())


def _assert(run, row):
    if run.pile.pop() == 0:
        run.trap("told", row[2])


DEEDS = {
    "begin": _begin, "number": _number, "read": _read, "write": _write, "global": _global, "slot": _slot,
    "clear": _clear, "field": _field, "index": _index, "within": _within, "load": _load, "store": _store,
    "swap": _swap, "work": _work, "divide": _divide, "jump": _jump, "if": _if, "case": _case, "drop": _drop,
    "call": _call, "leave": _leave, "return": _return, "out": _out, "in": _in, "more": _more, "assert": _assert,
}

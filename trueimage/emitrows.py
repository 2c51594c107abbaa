"""Lines of words for functions of chosen rows with colourings [48]."""

from trueimage.frames import (
    ARGS, BYTES, DEED, FIRST, MOST, RA, SECOND, SP, THIRD, Frame, LineMaker, fits,
)
from trueimage.lowcode import low_hands
from trueimage.moves import moves_of

# So many words of slots are cleared one by one at most, more in a loop.
MOST_CLEARED = 6


def lines_of(function, colouring):
    """The lines of a function of chosen rows with a right colouring, and the size of its frame in bytes."""
    blocks = function[2]
    frame = Frame(function, colouring)
    maker = LineMaker(frame, len(blocks))
    _begin(maker, blocks[0][0])
    for number, (_, rows, end) in enumerate(blocks):
        maker.label(number)
        for row in rows:
            emit = ROWS[row[0]]
            maker.place = row[-1]
            emit(maker, row)
        maker.place = end[-1] if end[0] in ("tail", "trap") else None
        emit = ENDS[end[0]]
        emit(maker, end, blocks)
    return maker.lines, frame.size


def _begin(maker, params):
    """What begins a function: its frame, what it saves, slots that are 0, and its params in their spots."""
    frame = maker.frame
    if frame.size > 0:
        if fits(-frame.size):
            maker.word("addi", SP, SP, -frame.size)
        else:
            maker.make(FIRST, frame.size)
            maker.word("sub", SP, SP, FIRST)
    for at, number in enumerate(frame.saved):
        maker.store(number, SP, frame.start_of_saved + BYTES * at, FIRST)
    _clear_slots(maker)
    for at, param in enumerate(params):
        maker.keep(param, ARGS + at)


def _clear_slots(maker):
    frame = maker.frame
    start, behind = frame.start_of_slots, frame.end_of_slots
    if start == behind:
        return
    if behind - start <= BYTES * MOST_CLEARED and behind <= MOST:
        for at in range(start, behind, BYTES):
            maker.word("sw", SP, 0, at)
        return
    maker.advance(FIRST, SP, start)
    maker.advance(SECOND, SP, behind)
    label = maker.new_label()
    maker.label(label)
    maker.word("sw", FIRST, 0, 0)
    maker.word("addi", FIRST, FIRST, BYTES)
    maker.branch("bne", FIRST, SECOND, label)


def _leave(maker):
    """What a function does ahead of going back or on: all that it saved is as it was."""
    frame = maker.frame
    for at, number in enumerate(frame.saved):
        maker.load(number, SP, frame.start_of_saved + BYTES * at, number)
    if frame.size > 0:
        if fits(frame.size):
            maker.word("addi", SP, SP, frame.size)
        else:
            maker.make(FIRST, frame.size)
            maker.word("add", SP, SP, FIRST)


def _set(maker, row):
    _, value, word, _ = row
    goal = maker.home(value, FIRST)
    maker.make(goal, word)
    maker.keep(value, goal)


def _name(maker, row):
    _, value, name, _ = row
    goal = maker.home(value, FIRST)
    maker.patched(("lui", goal, 0, 0), "high", name, 0)
    maker.patched(("addi", goal, goal, 0), "low", name, 0)
    maker.keep(value, goal)


def _slot(maker, row):
    _, value, number, _ = row
    goal = maker.home(value, FIRST)
    maker.advance(goal, SP, maker.frame.slots[number])
    maker.keep(value, goal)


def _three(maker, row):
    _, op, value, one, other, _ = row
    first = maker.read(one, FIRST)
    second = maker.read(other, SECOND)
    goal = maker.home(value, FIRST)
    maker.word(op, goal, first, second)
    maker.keep(value, goal)


def _imm(maker, row):
    _, op, value, one, number, _ = row
    first = maker.read(one, FIRST)
    goal = maker.home(value, FIRST)
    maker.word(op, goal, first, number)
    maker.keep(value, goal)


def _base(maker, kind, what, behind):
    """The register and the number that tell where a word stands in memory, but for a global."""
    if kind == "slot":
        return maker.reach(SP, maker.frame.slots[what] + behind, SECOND)
    return maker.reach(maker.read(what, SECOND), behind, THIRD)


def _load(maker, row):
    _, value, kind, what, behind, _ = row
    goal = maker.home(value, FIRST)
    if kind == "name":
        maker.patched(("lui", SECOND, 0, 0), "high", what, behind)
        maker.patched(("lw", goal, SECOND, 0), "low", what, behind)
    else:
        start, rest = _base(maker, kind, what, behind)
        maker.word("lw", goal, start, rest)
    maker.keep(value, goal)


def _store(maker, row):
    _, value, kind, what, behind, _ = row
    source = maker.read(value, FIRST)
    if kind == "name":
        maker.patched(("lui", SECOND, 0, 0), "high", what, behind)
        maker.patched(("sw", SECOND, source, 0), "low", what, behind)
    else:
        start, rest = _base(maker, kind, what, behind)
        maker.word("sw", start, source, rest)


def _must(maker, row):
    _, op, one, other, trap, _ = row
    first = maker.read(one, FIRST)
    # The branch goes past the next word.
    maker.word(op, first, maker.read(other, SECOND), 2 * BYTES)
    maker.trap(trap)


def _deep(maker, row):
    _, value, ahead, deeper, _ = row
    first = maker.read(ahead, SECOND)
    goal = maker.home(value, FIRST)
    maker.advance(goal, first, deeper)
    maker.patched(("addi", SECOND, 0, 0), "limit", "", 0)
    maker.word("bge", SECOND, goal, 2 * BYTES)
    maker.trap("stack")
    maker.keep(value, goal)


def _hand_args(maker, args):
    for at, arg in enumerate(args):
        maker.read_into(ARGS + at, arg)


def _call(maker, row):
    _, value, name, args, _ = row
    _hand_args(maker, args)
    maker.patched(("jal", RA, 0, 0), "jump", name, 0)
    maker.keep(value, ARGS)


def _deed(maker, number):
    maker.word("addi", DEED, 0, number)
    maker.word("ecall", 0, 0, 0)


def _out(maker, row):
    maker.read_into(ARGS, row[1])
    _deed(maker, 1)


def _in(maker, row):
    _deed(maker, 2)
    maker.keep(row[1], ARGS)


def _more(maker, row):
    _deed(maker, 3)
    maker.keep(row[1], ARGS)


def _hand(maker, params, args):
    """What is handed to a block is put into the spots of its params, all at once."""
    pairs = [(maker.spot(param), maker.spot(arg)) for param, arg in zip(params, args)]
    for goal, source in moves_of(pairs):
        maker.keep_spot(goal, maker.read_spot(source, FIRST))


def _go(maker, end, blocks):
    _, goal, args = end
    _hand(maker, blocks[goal][0], args)
    maker.jump(goal)


def _branch(maker, end, blocks):
    _, op, one, other = end[:4]
    (taken, first), (behind, second) = low_hands(end)
    left = maker.read(one, FIRST)
    right = maker.read(other, SECOND)
    label = maker.new_label() if first else taken
    maker.branch(op, left, right, label)
    _hand(maker, blocks[behind][0], second)
    maker.jump(behind)
    if first:
        maker.label(label)
        _hand(maker, blocks[taken][0], first)
        maker.jump(taken)


def _return(maker, end, blocks):
    maker.read_into(ARGS, end[1])
    _leave(maker)
    maker.word("jalr", 0, RA, 0)


def _tail(maker, end, blocks):
    _, name, args, _ = end
    _hand_args(maker, args)
    _leave(maker)
    maker.patched(("jal", 0, 0, 0), "jump", name, 0)


def _trap(maker, end, blocks):
    maker.trap(end[1])


ROWS = {
    "set": _set, "name": _name, "slot": _slot, "three": _three, "imm": _imm, "load": _load, "store": _store,
    "must": _must, "deep": _deep, "call": _call, "out": _out, "in": _in, "more": _more,
}
ENDS = {"go": _go, "branch": _branch, "return": _return, "tail": _tail, "trap": _trap}

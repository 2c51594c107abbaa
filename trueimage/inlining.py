"""Calls put in place, and calls that become tails [26]."""

from trueimage.errors import BadThing
from trueimage.middleforms import MOST_DEEPER, is_value
from trueimage.middlerows import end_named, gives, greatest_value, hands, row_named, turned

MOST_BLOCKS = 150
# A function is small with at most so many blocks and rows.
SMALL_BLOCKS = 8
SMALL_ROWS = 16


def placed(unit, name, at, number):
    """The unit with a call put in place: row number of block at of the function."""
    functions = {function[0]: function for function in unit[2]}
    if not isinstance(name, str) or name not in functions or not is_value(at) or not is_value(number):
        raise BadThing((name, at, number))
    function = functions[name]
    if at >= len(function[3]) or number >= len(function[3][at][1]):
        raise BadThing((name, at, number))
    if not _may_be_placed(function, at, number, functions):
        raise BadThing((name, at, number))
    functions[name] = _placed(function, at, number, functions)
    return _with_functions(unit, [functions[one[0]] for one in unit[2]])


def _with_functions(unit, functions):
    return (unit[0], unit[1], tuple(functions), unit[3])


def _may_be_placed(function, at, number, functions):
    """Whether a row is a call that can be put in place, of one of these functions."""
    row = function[3][at][1][number]
    if row[0] != "call" or row[2] not in functions:
        return False
    callee = functions[row[2]]
    if callee[2] or len(callee[3][0][0]) != len(row[3]) or len(function[3]) + len(callee[3]) + 1 > MOST_BLOCKS:
        return False
    return _deepest(callee) + row[4] <= MOST_DEEPER


def _deepest(function):
    """By how much a call or an enter of a function runs deeper at most."""
    deepest = 0
    for _, rows, end in function[3]:
        if end[0] == "tail":
            deepest = max(deepest, end[3])
        for row in rows:
            if row[0] == "call":
                deepest = max(deepest, row[4])
            elif row[0] == "enter":
                deepest = max(deepest, row[1])
    return deepest


def _placed(function, at, number, functions):
    """A function with a call in its place: behind its blocks come those of the callee, then the rest of the block."""
    name, kind, slots, blocks = function
    params, rows, end = blocks[at]
    _, value, called, args, deeper, place = rows[number]
    made = list(blocks)
    made[at] = (params, rows[:number] + (("enter", deeper, place),), ("go", len(blocks), args))
    made.extend(_copies(functions[called], greatest_value(function) + 1, len(blocks), deeper))
    made.append(((value,), rows[number + 1:], end))
    return (name, kind, slots, tuple(made))


def _copies(function, first, start, deeper):
    """Copies of a function's blocks, from this value and this block on, that go to the one behind them to return."""
    names = {}
    for params, rows, _ in function[3]:
        given = [gives(row) for row in rows]
        names.update({value: first + value for value in list(params) + given if value is not None})
    back = start + len(function[3])
    answer = first + greatest_value(function) + 1
    copies = []
    for params, rows, end in function[3]:
        copied = [_copy(row, names, deeper) for row in rows]
        end = end_named(end, names)
        end = turned(end, [(start + goal, args) for goal, args in hands(end)])
        if end[0] == "return":
            end = ("go", back, (end[1],))
        elif end[0] == "tail":
            copied.append(("call", answer, end[1], end[2], end[3] + deeper, end[4]))
            end = ("go", back, (answer,))
            answer += 1
        copies.append((tuple([names[param] for param in params]), tuple(copied), end))
    return copies


def _copy(row, names, deeper):
    row = row_named(row, names)
    if row[0] == "enter":
        return ("enter", row[1] + deeper, row[2])
    if row[0] == "call":
        row = row[:4] + (row[4] + deeper, row[5])
    return row if gives(row) is None else row[:1] + (names[row[1]],) + row[2:]


def placed_small(unit, many):
    """The unit with at most so many calls of small functions put in place, in each function."""
    functions = {function[0]: function for function in unit[2]}
    small = {name: functions[name] for name in functions if _is_small(functions[name])}
    made = []
    for function in unit[2]:
        for _ in range(many):
            call = _first_call(function, small)
            if call is not None:
                function = _placed(function, call[0], call[1], small)
        made.append(function)
    return _with_functions(unit, made)


def _is_small(function):
    rows = sum([len(rows) for _, rows, _ in function[3]])
    return not function[2] and len(function[3]) <= SMALL_BLOCKS and rows <= SMALL_ROWS


def _first_call(function, small):
    """Where the first call stands that can be put in place: its block and its row; None if there is none."""
    for at, (_, rows, _) in enumerate(function[3]):
        for number, row in enumerate(rows):
            if row[0] == "call" and row[2] != function[0] and _may_be_placed(function, at, number, small):
                return at, number
    return None


def unit_with_tails(unit):
    """The unit with tail ends in the place of calls whose answer is returned at once, in functions without slots."""
    return _with_functions(unit, [function if function[2] else _with_tails(function) for function in unit[2]])


def _with_tails(function):
    blocks = []
    for params, rows, end in function[3]:
        if rows and rows[-1][0] == "call" and end == ("return", rows[-1][1]):
            end = ("tail",) + rows[-1][2:]
            rows = rows[:-1]
        blocks.append((params, rows, end))
    return function[:3] + (tuple(blocks),)

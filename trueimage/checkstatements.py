"""Checking statements, and the rows that do them [6], [12], [13].

Each function for a sort of statements tells whether every way through such a statement comes to a return.
"""

from trueimage.checkexpressions import claim_of, rows_of
from trueimage.kinds import MOST_OF_LOCAL, is_word


def check_body(body, statements, place):
    """Check the statements of a function."""
    _begin(body, place, 0)
    if body.answer == "void":
        _check_row(body, statements)
        body.emit(("leave", 0))
    elif not _check_row(body, statements):
        body.view.fault(place, "no return")


def _check_row(body, statements):
    """Check statements one behind another: the locals that they tell go out of sight at the end."""
    known = len(body.told)
    returns = False
    for statement in statements:
        if _check_statement(body, statement):
            returns = True
    body.forget(known)
    return returns


def _begin(body, place, steps):
    """Something begins that counts so many steps: a function, a statement, or a round of a loop."""
    return body.emit(("begin", steps, body.full_place(place)))


def _check_statement(body, statement):
    _begin(body, statement[1], 1)
    check = STATEMENTS[statement[0]]
    return check(body, statement)


def _check_inner(body, statement):
    """Check the body of a branch or a loop: brackets around it are no statement begun."""
    if statement[0] == "braces":
        return _check_row(body, statement[2])
    return _check_statement(body, statement)


def _braces(body, statement):
    return _check_row(body, statement[2])


def _declaration(body, statement):
    _, place, told, name, many, firsts = statement
    view = body.view
    kind = view.kind_told(told, many)
    view.look_at_size(kind, MOST_OF_LOCAL, place)
    view.look_at_firsts(kind, firsts, place)
    if is_word(kind):
        body.emit_all(rows_of(body, firsts[1]) if firsts is not None else [("number", 0, 0)])
        cell = body.new_cells(1)
        body.emit(("write", 0, cell))
        body.tell(name, ("word", kind, cell), place)
        return False
    words = view.words_of(kind)
    slot = body.new_slot(words)
    body.emit(("clear", words, slot))
    for at, first in enumerate(firsts[1] if firsts is not None else ()):
        rows = rows_of(body, first)
        body.emit_all([("slot", 0, slot), ("field", 0, at)] + rows + [("store", 0)])
    body.tell(name, ("object", kind, slot), place)
    return False


def _assignment(body, statement):
    _, place, goal, value = statement
    sort, kind, rows, number = claim_of(body, goal)
    if sort not in ("local", "thing") or not is_word(kind):
        body.view.fault(place, "no word")
    word = rows_of(body, value)
    if sort == "local":
        body.emit_all(word + [("write", 0, number)])
    else:
        body.emit_all(rows + word + [("store", 0)])
    return False


def _call(body, statement):
    sort, _, rows, _ = claim_of(body, statement[2])
    body.emit_all(rows)
    if sort != "nothing":
        body.emit(("drop", 0))
    return False


def _if(body, statement):
    _, _, test, then, other = statement
    body.emit_all(rows_of(body, test))
    skip = body.emit(("if", 0, 0))
    returns = _check_inner(body, then)
    if other is None:
        body.land(skip)
        return False
    over = body.emit(("jump", 0, 0))
    body.land(skip)
    also = _check_inner(body, other)
    body.land(over)
    return returns and also


def _check_loop(body, inner):
    """Check the body of a loop: where its breaks and its continues stand."""
    body.loops.append(([], []))
    _check_inner(body, inner)
    return body.loops.pop()


def _while(body, statement):
    _, place, test, inner = statement
    back = _begin(body, place, 1)
    body.emit_all(rows_of(body, test))
    leave = body.emit(("if", 0, 0))
    breaks, continues = _check_loop(body, inner)
    body.land_all(continues)
    body.jump_back(back)
    body.land_all(breaks + [leave])
    return False


def _do(body, statement):
    _, place, inner, test = statement
    back = body.here()
    breaks, continues = _check_loop(body, inner)
    body.land_all(continues)
    _begin(body, place, 1)
    body.emit_all(rows_of(body, test))
    leave = body.emit(("if", 0, 0))
    body.jump_back(back)
    body.land_all(breaks + [leave])
    return False


def _for(body, statement):
    _, place, first, test, step, inner = statement
    known = len(body.told)
    if first is not None:
        _check_statement(body, first)
    back = _begin(body, place, 1)
    leave = []
    if test is not None:
        body.emit_all(rows_of(body, test))
        leave.append(body.emit(("if", 0, 0)))
    breaks, continues = _check_loop(body, inner)
    body.land_all(continues)
    if step is not None:
        _check_statement(body, step)
    body.jump_back(back)
    body.land_all(breaks + leave)
    body.forget(known)
    return False


def _switch(body, statement):
    _, _, value, cases, default = statement
    body.emit_all(rows_of(body, value))
    tried = {}
    ends = []
    returns = default is not None
    for place, word, statements in cases:
        if word in tried:
            body.view.fault(place, "told twice")
        tried[word] = True
        unlike = body.emit(("case", 1, 0, word))
        if not _check_row(body, statements):
            returns = False
        ends.append(body.emit(("jump", 0, 0)))
        body.land(unlike)
    body.emit(("drop", 0 if default is None else 1))
    if default is not None and not _check_row(body, default):
        returns = False
    body.land_all(ends)
    return returns


def _break(body, statement):
    if not body.loops:
        body.view.fault(statement[1], "no loop")
    body.loops[-1][0].append(body.emit(("jump", 0, 0)))
    return False


def _continue(body, statement):
    if not body.loops:
        body.view.fault(statement[1], "no loop")
    body.loops[-1][1].append(body.emit(("jump", 0, 0)))
    return False


def _return(body, statement):
    _, place, value = statement
    if (value is None) != (body.answer == "void"):
        body.view.fault(place, "return")
    if value is None:
        body.emit(("leave", 0))
    else:
        body.emit_all(rows_of(body, value))
        body.emit(("return", 0))
    return True


def _out(body, statement):
    body.emit_all(rows_of(body, statement[2]))
    body.emit(("out", 0))
    return False


def _assert(body, statement):
    _, place, value = statement
    body.emit_all(rows_of(body, value))
    body.emit(("assert", 0, body.full_place(place)))
    return False


STATEMENTS = {
    "braces": _braces, "declaration": _declaration, "assignment": _assignment, "call": _call, "if": _if,
    "while": _while, "do": _do, "for": _for, "switch": _switch, "break": _break, "continue": _continue,
    "return": _return, "out": _out, "assert": _assert,
}

"""Reading statements [6], within the bounds of [8].

A statement is a tuple that begins with its sort and its place; an expression is a row of parts.
"""

from trueimage.pieces import NAME, NUMBER
from trueimage.readexpressions import MOST_WITHIN, read_expression
from trueimage.words import word_of

KINDS = ("int", "uint", "struct")


def read_kind(cursor):
    """Read a kind of things: (sort, name of a structure, place)."""
    sort, _, place = cursor.take()
    name = cursor.want(NAME)[1] if sort == "struct" else ""
    return sort, name, place


def read_many(cursor):
    """Read how many things an array has, None where no array is told."""
    if cursor.ahead() != "[":
        return None
    cursor.take()
    many = cursor.want(NUMBER)[1][0]
    cursor.want("]")
    return many


def read_firsts(cursor, depth):
    """Read first words, in expressions this deep: None, ("word", expression) or ("row", expressions)."""
    if cursor.ahead() != "=":
        return None
    cursor.take()
    if cursor.ahead() != "{":
        return "word", read_expression(cursor, depth)
    cursor.take()
    firsts = []
    if cursor.ahead() != "}":
        firsts.append(read_expression(cursor, depth))
        while cursor.ahead() == ",":
            cursor.take()
            firsts.append(read_expression(cursor, depth))
    cursor.want("}")
    return "row", tuple(firsts)


def read_statements(cursor, depth, ends):
    """Read statements this deep, until one of these pieces comes."""
    statements = []
    while cursor.ahead() not in ends:
        statements.append(_read_statement(cursor, depth, False))
    return tuple(statements)


def _read_statement(cursor, depth, alone):
    """Read a statement; one that stands alone is no declaration."""
    if depth > MOST_WITHIN:
        cursor.fail()
    sort = cursor.ahead()
    if sort in STATEMENTS:
        read = STATEMENTS[sort]
        return read(cursor, depth)
    if sort in KINDS and alone:
        cursor.fail()
    statement = _read_declaration(cursor, depth) if sort in KINDS else _read_plain(cursor, depth)
    cursor.want(";")
    return statement


def _read_declaration(cursor, depth):
    kind = read_kind(cursor)
    _, name, place = cursor.want(NAME)
    many = read_many(cursor)
    return "declaration", place, kind, name, many, read_firsts(cursor, depth + 1)


def _read_plain(cursor, depth):
    """Read an assignment or a call."""
    place = cursor.spot()
    expression = read_expression(cursor, depth + 1)
    if cursor.ahead() == "=":
        cursor.take()
        return "assignment", place, expression, read_expression(cursor, depth + 1)
    # The last part is what the whole expression is.
    if expression[-1][0] != "call":
        cursor.fail()
    return "call", place, expression


def _read_test(cursor, depth):
    """Read an expression in the brackets of a statement."""
    cursor.want("(")
    test = read_expression(cursor, depth + 1)
    cursor.want(")")
    return test


def _read_braces(cursor, depth):
    place = cursor.take()[2]
    statements = read_statements(cursor, depth + 1, ("}",))
    cursor.want("}")
    return "braces", place, statements


def _read_if(cursor, depth):
    place = cursor.take()[2]
    test = _read_test(cursor, depth)
    then = _read_statement(cursor, depth + 1, True)
    other = None
    if cursor.ahead() == "else":
        cursor.take()
        other = _read_statement(cursor, depth + 1, True)
    return "if", place, test, then, other


def _read_while(cursor, depth):
    place = cursor.take()[2]
    test = _read_test(cursor, depth)
    return "while", place, test, _read_statement(cursor, depth + 1, True)


def _read_do(cursor, depth):
    place = cursor.take()[2]
    inner = _read_statement(cursor, depth + 1, True)
    cursor.want("while")
    test = _read_test(cursor, depth)
    cursor.want(";")
    return "do", place, inner, test


def _read_for(cursor, depth):
    place = cursor.take()[2]
    first, test, step = None, None, None
    cursor.want("(")
    if cursor.ahead() in KINDS:
        first = _read_declaration(cursor, depth)
    elif cursor.ahead() != ";":
        first = _read_plain(cursor, depth)
    cursor.want(";")
    if cursor.ahead() != ";":
        test = read_expression(cursor, depth + 1)
    cursor.want(";")
    if cursor.ahead() != ")":
        step = _read_plain(cursor, depth)
    cursor.want(")")
    return "for", place, first, test, step, _read_statement(cursor, depth + 1, True)


def _read_switch(cursor, depth):
    place = cursor.take()[2]
    value = _read_test(cursor, depth)
    cursor.want("{")
    cases = []
    while cursor.ahead() == "case":
        cases.append(_read_case(cursor, depth))
    default = None
    if cursor.ahead() == "default":
        cursor.take()
        cursor.want(":")
        default = read_statements(cursor, depth + 1, ("}",))
    cursor.want("}")
    return "switch", place, value, tuple(cases), default


def _read_case(cursor, depth):
    """Read a case: its place, word and statements."""
    place = cursor.take()[2]
    sign = 1
    if cursor.ahead() == "-":
        cursor.take()
        sign = -1
    word = word_of(sign * cursor.want(NUMBER)[1][0])
    cursor.want(":")
    return place, word, read_statements(cursor, depth + 1, ("case", "default", "}"))


def _read_leaving(cursor, depth):
    sort, _, place = cursor.take()
    cursor.want(";")
    return sort, place


def _read_return(cursor, depth):
    place = cursor.take()[2]
    value = None
    if cursor.ahead() != ";":
        value = read_expression(cursor, depth + 1)
    cursor.want(";")
    return "return", place, value


def _read_told(cursor, depth):
    """Read an out or an assert."""
    sort, _, place = cursor.take()
    value = _read_test(cursor, depth)
    cursor.want(";")
    return sort, place, value


STATEMENTS = {
    "{": _read_braces, "if": _read_if, "while": _read_while, "do": _read_do, "for": _read_for,
    "switch": _read_switch, "break": _read_leaving, "continue": _read_leaving, "return": _read_return,
    "out": _read_told, "assert": _read_told,
}

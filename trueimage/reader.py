"""Reading modules [4] to [8].

The tree of a module is (name, place, uses, items): uses a tuple of (name, place); items are
("struct", place, name, fields), fields being tuples (kind, name, many, place),
("global", place, kind, name, many, firsts),
("function", place, kind, name, params, statements), params being tuples (kind, name, is it a slice, place).
"""

from trueimage.errors import BadText
from trueimage.pieces import END, NAME, Cursor, pieces_of
from trueimage.readstatements import KINDS, read_firsts, read_kind, read_many, read_statements


def read_module(text):
    """The tree of a text, or BadText."""
    if not isinstance(text, str):
        raise BadText(0, 0)
    cursor = Cursor(pieces_of(text))
    cursor.want("module")
    _, name, place = cursor.want(NAME)
    cursor.want(";")
    uses = []
    while cursor.ahead() == "use":
        cursor.take()
        _, used, spot = cursor.want(NAME)
        cursor.want(";")
        uses.append((used, spot))
    items = []
    while cursor.ahead() != END:
        items.append(_read_item(cursor))
    return name, place, tuple(uses), tuple(items)


def _read_item(cursor):
    if cursor.ahead() == "void":
        kind = ("void", "", cursor.take()[2])
        _, name, place = cursor.want(NAME)
        return _read_function(cursor, kind, name, place)
    if cursor.ahead() not in KINDS:
        cursor.fail()
    kind = read_kind(cursor)
    if kind[0] == "struct" and cursor.ahead() == "{":
        return _read_structure(cursor, kind)
    _, name, place = cursor.want(NAME)
    if cursor.ahead() == "(":
        return _read_function(cursor, kind, name, place)
    many = read_many(cursor)
    firsts = read_firsts(cursor, 1)
    cursor.want(";")
    return "global", place, kind, name, many, firsts


def _read_structure(cursor, kind):
    cursor.want("{")
    fields = []
    while cursor.ahead() in ("int", "uint"):
        sort = cursor.take()[0]
        _, name, place = cursor.want(NAME)
        many = read_many(cursor)
        cursor.want(";")
        fields.append((sort, name, many, place))
    cursor.want("}")
    cursor.want(";")
    return "struct", kind[2], kind[1], tuple(fields)


def _read_function(cursor, kind, name, place):
    cursor.want("(")
    params = []
    if cursor.ahead() != ")":
        params.append(_read_param(cursor))
        while cursor.ahead() == ",":
            cursor.take()
            params.append(_read_param(cursor))
    cursor.want(")")
    cursor.want("{")
    statements = read_statements(cursor, 1, ("}",))
    cursor.want("}")
    return "function", place, kind, name, tuple(params), statements


def _read_param(cursor):
    if cursor.ahead() not in KINDS:
        cursor.fail()
    kind = read_kind(cursor)
    _, name, place = cursor.want(NAME)
    is_slice = cursor.ahead() == "["
    if is_slice:
        cursor.take()
        cursor.want("]")
    return kind, name, is_slice, place

"""Reading expressions [7], within the bounds of [8].

An expression is the row of its parts, each behind those that it is made of. A part is
(sort, what, many, place):
("number", word, kind, place), ("name", name, 0, place), ("call", name, how many arguments, place),
("in", "", 0, place), ("more", "", 0, place), ("index", "", 0, place), ("field", name, 0, place),
("length", "", 0, place), ("one", sign, 0, place), ("two", sign, 0, place), ("three", "", 0, place).
A row instead of a tree, because signs may stand behind one another as long as a text allows.
"""

from trueimage.pieces import NAME

STRENGTHS = {
    "||": 1, "&&": 2, "|": 3, "^": 4, "&": 5, "==": 6, "!=": 6, "<": 7, "<=": 7, ">": 7, ">=": 7,
    "<<": 8, ">>": 8, "+": 9, "-": 9, "*": 10, "/": 10, "mod": 10,
}
CLOSING = {"?": ":", "call": ")", "(": ")", "index": "]"}
AHEAD = ("!", "~", "-")
STRENGTH_AHEAD = 11
MOST_WITHIN = 30
MOST_PIECES = 120


class ExpressionReader:
    """One whole expression while it is read."""

    def __init__(self, cursor, depth):
        self.cursor = cursor
        self.first = cursor.at
        self.depth = depth
        self.parts = []
        # Signs and brackets whose parts are not all there yet, the innermost one last.
        self.held = []

    def look_at_depth(self):
        """What begins at the next piece must not stand too deep."""
        if self.depth > MOST_WITHIN:
            self.cursor.fail()

    def begin_within(self, sort, what, many, place):
        """An expression begins within this one, in what is told."""
        self.held.append((sort, what, many, place))
        self.depth += 1
        self.look_at_depth()

    def end_within(self, sort):
        """The innermost expression has ended, and with it a part of this sort."""
        _, what, many, place = self.held.pop()
        self.depth -= 1
        self.parts.append((sort, what, many, place))

    def take_counted(self):
        """Take a piece that must be one of the first ones."""
        if self.cursor.at - self.first >= MOST_PIECES:
            self.cursor.fail()
        return self.cursor.take()

    def settle(self, strength):
        """The signs at the end that bind at least so closely have all their parts."""
        while self.held and _strength_of(self.held[-1]) >= strength:
            self.parts.append(self.held.pop())

    def settle_all(self):
        """All ends that ends at a piece that goes on with no expression."""
        self.settle(1)
        # Signs ahead of a ? were settled there, so that none stands directly ahead of its last part.
        while self.held and self.held[-1][0] == ":":
            self.end_within("three")


def read_expression(cursor, depth):
    """Read a whole expression, this deep within others."""
    reader = ExpressionReader(cursor, depth)
    reader.look_at_depth()
    going = True
    while going:
        _read_operand(reader)
        going = _read_behind(reader)
    return tuple(reader.parts)


def _strength_of(held):
    if held[0] == "one":
        return STRENGTH_AHEAD
    return STRENGTHS[held[1]] if held[0] == "two" else 0


def _read_operand(reader):
    """Read until a part is whole to which signs behind it belong."""
    cursor = reader.cursor
    whole = False
    while not whole:
        if cursor.ahead() in AHEAD:
            sign, _, place = cursor.take()
            reader.held.append(("one", sign, 0, place))
        elif cursor.ahead() in BEGINNINGS:
            begin = BEGINNINGS[cursor.ahead()]
            whole = begin(reader)
        else:
            cursor.fail()


def _read_number(reader):
    _, worth, place = reader.take_counted()
    reader.parts.append(("number", worth[0], worth[1], place))
    return True


def _read_name(reader):
    cursor = reader.cursor
    _, name, place = reader.take_counted()
    if cursor.ahead() != "(":
        reader.parts.append(("name", name, 0, place))
        return True
    cursor.take()
    if cursor.ahead() == ")":
        cursor.take()
        reader.parts.append(("call", name, 0, place))
        return True
    reader.begin_within("call", name, 1, place)
    return False


def _read_in_or_more(reader):
    sort, _, place = reader.take_counted()
    reader.cursor.want("(")
    reader.cursor.want(")")
    reader.parts.append((sort, "", 0, place))
    return True


def _read_bracket(reader):
    place = reader.take_counted()[2]
    reader.begin_within("(", "", 0, place)
    return False


BEGINNINGS = {
    "number": _read_number, "name": _read_name, "in": _read_in_or_more, "more": _read_in_or_more, "(": _read_bracket,
}


def _read_behind(reader):
    """Read what stands behind a whole part: True if another one must come, False at the end of all."""
    cursor = reader.cursor
    while True:
        sort = cursor.ahead()
        if sort == ".":
            _read_field(reader)
        elif sort == "[":
            reader.begin_within("index", "", 0, reader.take_counted()[2])
            return True
        elif sort in STRENGTHS:
            reader.settle(STRENGTHS[sort])
            reader.held.append(("two", sort, 0, cursor.take()[2]))
            return True
        elif sort == "?":
            reader.settle(1)
            reader.begin_within("?", "", 0, cursor.take()[2])
            return True
        else:
            reader.settle_all()
            if not reader.held:
                return False
            if _close(reader, sort):
                return True


def _read_field(reader):
    place = reader.take_counted()[2]
    if reader.cursor.ahead() == "length":
        reader.cursor.take()
        reader.parts.append(("length", "", 0, place))
    else:
        name = reader.cursor.want(NAME)[1]
        reader.parts.append(("field", name, 0, place))


def _close(reader, sort):
    """Take the piece at which an expression within another one ends: True if the next one begins behind it."""
    cursor = reader.cursor
    within, what, many, place = reader.held[-1]
    if within == "?" and sort == ":":
        cursor.take()
        reader.held[-1] = (":", "", 0, place)
        return True
    if within == "call" and sort == ",":
        cursor.take()
        reader.held[-1] = ("call", what, many + 1, place)
        return True
    cursor.want(CLOSING[within])
    if within == "(":
        reader.held.pop()
        reader.depth -= 1
    else:
        reader.end_within(within)
    return False

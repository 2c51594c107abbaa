"""The pieces of a text [4], and a cursor that goes through them.

A piece is (sort, worth, place): the sort of an own word or a sign is its text; a name's worth is
its text, a number's the pair of its word and its kind; a place is (line, column).
"""

from trueimage.errors import BadText
from trueimage.words import GREATEST, HALF

NAME = "name"
NUMBER = "number"
WRONG = "wrong"
END = "end"
OWN_WORDS = {
    "module": True, "use": True, "struct": True, "int": True, "uint": True, "void": True,
    "if": True, "else": True, "while": True, "do": True, "for": True, "break": True,
    "continue": True, "switch": True, "case": True, "default": True, "return": True, "out": True,
    "assert": True, "in": True, "more": True, "length": True, "mod": True,
}
LONG_SIGNS = ("<<", ">>", "<=", ">=", "==", "!=", "&&", "||")
SHORT_SIGNS = "+-*/&|^~!<>=?:;,.()[]{}"
FIGURES = "0123456789"
SMALL_FIGURES = "0123456789abcdef"
LETTERS = "_ABCDEFGHIJKLMNOPQRSTUVWXYZabcdefghijklmnopqrstuvwxyz"
MOST_SIGNS = 24
MOST_FIGURES = 10


class Cursor:
    """Where a reader stands in the pieces of a text."""

    def __init__(self, pieces):
        self.pieces = pieces
        self.at = 0

    def ahead(self):
        """The sort of the next piece."""
        return self.pieces[self.at][0]

    def spot(self):
        """The place of the next piece."""
        return self.pieces[self.at][2]

    def take(self):
        """The next piece, which is gone by."""
        piece = self.pieces[self.at]
        self.at += 1
        return piece

    def want(self, sort):
        """The next piece, which must be of this sort."""
        if self.ahead() != sort:
            self.fail()
        return self.take()

    def fail(self):
        """The next piece is wrong."""
        line, column = self.spot()
        raise BadText(line, column)


def pieces_of(text):
    """The list of the pieces of a text, the last one its end; what begins no piece is one of the sort WRONG."""
    pieces = []
    lines = text.split("\n")
    for at, line in enumerate(lines):
        pieces.extend(_pieces_in(line, at + 1))
    pieces.append((END, "", (len(lines), len(lines[-1]) + 1)))
    return pieces


def _pieces_in(line, number):
    pieces = []
    at = 0
    while at < len(line) and not line.startswith("//", at):
        if line[at] == " ":
            at += 1
        else:
            size = _size_of(line, at)
            sort, worth = _sort_of(line[at:at + size])
            pieces.append((sort, worth, (number, at + 1)))
            at += size
    return pieces


def _size_of(line, at):
    if line[at] in LETTERS or line[at] in FIGURES:
        behind = at + 1
        while behind < len(line) and (line[behind] in LETTERS or line[behind] in FIGURES):
            behind += 1
        return behind - at
    return 2 if line[at:at + 2] in LONG_SIGNS else 1


def _sort_of(text):
    if text in OWN_WORDS or text in LONG_SIGNS or text in SHORT_SIGNS:
        return text, ""
    if text[0] in LETTERS and len(text) <= MOST_SIGNS:
        return NAME, text
    if text[0] in FIGURES:
        number = _number_of(text)
        if number is not None:
            return NUMBER, number
    return WRONG, ""


def _number_of(text):
    """The word and the kind of a number, None for a wrong one."""
    body = text.removesuffix("u")
    if body.startswith("0x"):
        word = _figures_read(body[2:], SMALL_FIGURES)
    elif body.startswith("0") and body != "0":
        word = None
    else:
        word = _figures_read(body, FIGURES)
    if word is None or word > GREATEST:
        return None
    return word, "uint" if body != text or word >= HALF else "int"


def _figures_read(text, figures):
    """The number that a row of figures tells, None for other rows."""
    if text == "" or len(text) > MOST_FIGURES:
        return None
    number = 0
    for figure in text:
        if figure not in figures:
            return None
        number = number * len(figures) + figures.index(figure)
    return number

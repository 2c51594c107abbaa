"""The form of colourings [44], and which registers values may have."""

from trueimage.middleforms import is_number, is_value

REGISTER = "r"
WORD = "w"
# Registers that calls keep, and those that they don't.
KEPT = (8, 9, 18, 19, 20, 21, 22, 23, 24, 25, 26, 27)
FREE = (28, 29, 30, 31)
MOST_WORDS = 4096


def is_colouring(thing):
    """Whether a thing is a pair of anything and spots of the right form."""
    if not isinstance(thing, tuple) or len(thing) != 2 or not isinstance(thing[1], tuple):
        return False
    before = -1
    for spot in thing[1]:
        if not isinstance(spot, tuple) or len(spot) != 3 or not is_value(spot[0]) or spot[0] <= before:
            return False
        if not _is_spot(spot[1], spot[2]):
            return False
        before = spot[0]
    return True


def _is_spot(kind, number):
    if not isinstance(kind, str) or not is_value(number):
        return False
    if kind == REGISTER:
        return number in KEPT or number in FREE
    return kind == WORD and is_number(number, 0, MOST_WORDS - 1)

"""How many moves stand at the ends of functions, and which registers are used, by a colouring [46]."""

from trueimage.colourforms import REGISTER
from trueimage.lowcode import low_hands
from trueimage.moves import NOUGHT, fewest_moves


def moves_in(function, colouring):
    """How many moves stand at all ends of a function, for what is handed to blocks, by a right colouring."""
    spots = {value: (kind, number) for value, kind, number in colouring[1]}
    blocks = function[2]
    many = 0
    for _, _, end in blocks:
        for goal, args in low_hands(end):
            params = blocks[goal][0]
            many += fewest_moves([(spots[param], spots.get(arg, NOUGHT)) for param, arg in zip(params, args)])
    return many


def registers_in(colouring):
    """The ascending tuple of the registers of a colouring."""
    return tuple(sorted(set([number for _, kind, number in colouring[1] if kind == REGISTER])))

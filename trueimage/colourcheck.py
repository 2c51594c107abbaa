"""The checker of colourings [44]."""

from trueimage.colourforms import FREE, REGISTER, is_colouring
from trueimage.lives import is_table, living_behind
from trueimage.lowcode import low_end_uses, low_gives, low_uses


def wrong_colours(function, colouring):
    """None for a right colouring of a function of chosen rows, else a tuple that begins with a word."""
    if not is_colouring(colouring):
        return ("form",)
    table, spots = colouring
    blocks = function[2]
    if not is_table(blocks, table):
        return ("lives",)
    colours = {value: (kind, number) for value, kind, number in spots}
    for number, block in enumerate(blocks):
        for value in _named_in(block, table[number]):
            if value not in colours:
                return ("no spot", value)
    for number, block in enumerate(blocks):
        wrong = _wrong_in(block, number, table, colours)
        if wrong is not None:
            return wrong
    return None


def _named_in(block, lives):
    """All values that a block gives or uses, and those that live into it."""
    params, rows, end = block
    found = list(lives) + list(params) + list(low_end_uses(end))
    for row in rows:
        found.extend(low_uses(row))
        if low_gives(row) is not None:
            found.append(low_gives(row))
    return found


def _wrong_in(block, number, table, colours):
    """What is wrong in a block whose values all have spots, or None."""
    living = Living(colours)
    for value in living_behind(block, table):
        living.add(value)
    for row in reversed(block[1]):
        given = low_gives(row)
        if given is not None:
            living.leave(given)
            if living.has(given):
                return ("shared", number, given)
        if row[0] == "call" and living.in_free_register():
            return ("not kept", number, row)
        for value in low_uses(row):
            living.add(value)
    return _wrong_at_beginning(block[0], number, table[number], colours)


def _wrong_at_beginning(params, number, lives, colours):
    """Where a block begins its params live with one another, and with all that lives into it."""
    living = Living(colours)
    for value in lives:
        living.add(value)
    for param in params:
        living.leave(param)
    for param in params:
        if living.has(param):
            return ("shared", number, param)
        living.add(param)
    return None


class Living:
    """The values that live at a point, and how many of them each spot has."""

    def __init__(self, colours):
        self.colours = colours
        self.members = {}
        self.counts = {}

    def add(self, value):
        """A value lives."""
        if value not in self.members:
            self.members[value] = True
            spot = self.colours[value]
            self.counts[spot] = self.counts.get(spot, 0) + 1

    def leave(self, value):
        """A value doesn't live."""
        if value in self.members:
            del self.members[value]
            self.counts[self.colours[value]] -= 1

    def has(self, value):
        """Whether the spot of a value is that of one that lives."""
        return self.counts.get(self.colours[value], 0) > 0

    def in_free_register(self):
        """Whether a value lives in a register that calls don't keep."""
        return any([self.counts.get((REGISTER, number), 0) > 0 for number in FREE])

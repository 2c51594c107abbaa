"""What lives where in chosen code [43]."""

from trueimage.living import living_into
from trueimage.lowcode import low_end_uses, low_gives, low_hands, low_uses


def lives(blocks):
    """The table of what lives into each block, its own params not among them."""
    befores = [[] for _ in blocks]
    given = []
    used = []
    for number, (params, rows, end) in enumerate(blocks):
        for goal, _ in low_hands(end):
            befores[goal].append(number)
        here = {value: True for value in params}
        ahead = []
        for row in rows:
            ahead.extend([value for value in low_uses(row) if value not in here])
            if low_gives(row) is not None:
                here[low_gives(row)] = True
        ahead.extend([value for value in low_end_uses(end) if value not in here])
        given.append(here)
        used.append(ahead)
    return tuple([tuple(row) for row in living_into(befores, given, used)])


def living_behind(block, table):
    """What lives behind the rows of a block, ahead of its end, as keys, by a table."""
    found = {value: True for value in low_end_uses(block[2])}
    for goal, _ in low_hands(block[2]):
        for value in table[goal]:
            found[value] = True
    return found


def is_table(blocks, table):
    """Whether a tuple tells at least what lives into each block, as it tells itself for the blocks behind it."""
    if not isinstance(table, tuple) or len(table) != len(blocks):
        return False
    for row in table:
        if not isinstance(row, tuple) or not all([_is_value(value) for value in row]):
            return False
    for block, row in zip(blocks, table):
        living = living_behind(block, table)
        for step in reversed(block[1]):
            if low_gives(step) in living:
                del living[low_gives(step)]
            for value in low_uses(step):
                living[value] = True
        for value in list(block[0]) + list(row):
            if value in living:
                del living[value]
        if living:
            return False
    return True


def _is_value(thing):
    return isinstance(thing, int) and not isinstance(thing, bool)

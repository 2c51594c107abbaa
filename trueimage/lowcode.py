"""The rows and ends of chosen code [40]: what they give, use and hand on; -1 stands for the word 0."""

NOUGHT = -1
# Where a row has the value that it gives.
GIVEN = {
    "set": 1, "name": 1, "slot": 1, "three": 2, "imm": 2, "load": 1, "deep": 1, "call": 1, "in": 1, "more": 1,
}
# Where a row may have values that it uses; a call has them in a row of their own.
USED = {
    "set": (), "name": (), "slot": (), "three": (3, 4), "imm": (3,), "load": (), "store": (1,), "must": (2, 3),
    "deep": (2,), "out": (1,), "in": (), "more": (),
}


def low_gives(row):
    """The value that a row gives, or None."""
    return row[GIVEN[row[0]]] if row[0] in GIVEN else None


def _real(values):
    """Those of values that don't stand for the word 0."""
    return tuple([value for value in values if value != NOUGHT])


def low_uses(row):
    """The values that a row uses, in their order."""
    if row[0] == "call":
        return _real(row[3])
    used = [row[at] for at in USED[row[0]]]
    if row[0] in ("load", "store") and row[2] == "at":
        used.append(row[3])
    return _real(used)


def low_hands(end):
    """The pairs of a block and what an end can hand to it, the first one first."""
    if end[0] == "go":
        return [(end[1], end[2])]
    if end[0] == "branch":
        return [(end[4], end[5]), (end[6], end[7])]
    return []


def low_end_uses(end):
    """The values that an end uses, in their order."""
    if end[0] == "go":
        return _real(end[2])
    if end[0] == "branch":
        return _real([end[2], end[3]] + list(end[5]) + list(end[7]))
    if end[0] == "return":
        return _real([end[1]])
    return _real(end[2]) if end[0] == "tail" else ()

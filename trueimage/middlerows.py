"""The rows and ends of middle code [17]: what they give, use and hand on, and copies of them under other names."""

GIVING = ("const", "op", "address", "index", "load", "call", "in", "more")
PURE = ("const", "op", "address", "index")
# Where a row has the values that it uses; a call has them in a tuple.
USED = {
    "const": (), "op": (3, 4), "address": (), "index": (2, 3), "load": (2,), "store": (1, 3), "check": (1,),
    "enter": (), "out": (1,), "in": (), "more": (),
}


def gives(row):
    """The value that a row gives, or None."""
    return row[1] if row[0] in GIVING else None


def uses(row):
    """The values that a row uses, in their order."""
    if row[0] == "call":
        return row[3]
    return tuple([row[at] for at in USED[row[0]]])


def end_uses(end):
    """The values that an end uses, in their order."""
    if end[0] == "go":
        return end[2]
    if end[0] == "if":
        return (end[1],) + end[3] + end[5]
    if end[0] == "return":
        return (end[1],)
    return end[2] if end[0] == "tail" else ()


def hands(end):
    """The pairs of a block and what is handed to it, for each turn of an end, the first one first."""
    if end[0] == "go":
        return [(end[1], end[2])]
    if end[0] == "if":
        return [(end[2], end[3]), (end[4], end[5])]
    return []


def turned(end, goals):
    """An end that goes to other blocks, told as hands tells them."""
    if end[0] == "go":
        return ("go",) + goals[0]
    if end[0] == "if":
        return end[:2] + goals[0] + goals[1]
    return end


def named(values, names):
    """Values under the names that some have."""
    return tuple([names.get(value, value) for value in values])


def row_named(row, names):
    """A row that uses values under the names that some have."""
    if row[0] == "call":
        return row[:3] + (named(row[3], names),) + row[4:]
    parts = list(row)
    for at in USED[row[0]]:
        parts[at] = names.get(row[at], row[at])
    return tuple(parts)


def end_named(end, names):
    """An end that uses values under the names that some have."""
    if end[0] == "return":
        return ("return", names.get(end[1], end[1]))
    if end[0] == "tail":
        return end[:2] + (named(end[2], names),) + end[3:]
    if end[0] == "if":
        end = end[:1] + (names.get(end[1], end[1]),) + end[2:]
    return turned(end, [(block, named(args, names)) for block, args in hands(end)])


def greatest_value(function):
    """The greatest value that a function gives, -1 if it gives none."""
    greatest = -1
    for params, rows, _ in function[3]:
        for value in params:
            greatest = max(greatest, value)
        for row in rows:
            if row[0] in GIVING:
                greatest = max(greatest, row[1])
    return greatest

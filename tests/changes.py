"""Random changes of functions of middle code and of witnesses, for tests."""

from middlefunctions import WORKS

GIVING = ("const", "op", "address", "index", "load", "call", "in", "more")
TEXTS = WORKS + ("bounds", "zero", "told", "g", "h", "k")
WAYS = ((), (0,), (1,), (0, 0), (0, 1), (1, 0), (1, 1))


def values_of(function):
    found = []
    for params, rows, _ in function[3]:
        found += params
        found += [row[1] for row in rows if row[0] in GIVING]
    return found or [0]


def changed_part(part, numbers, values, many):
    """Another thing of the same sort."""
    if isinstance(part, int):
        return numbers.choice((part + 1, max(0, part - 1), numbers.choice(values), numbers.randrange(2), numbers.randrange(many)))
    if isinstance(part, str):
        return numbers.choice(TEXTS)
    if part and isinstance(part[0], int):
        parts = list(part)
        parts[numbers.randrange(len(parts))] = numbers.choice(values)
        return tuple(parts)
    return part if not part else ("m", 1, 1)


def changed_tuple(thing, numbers, values, many):
    """A row or an end with another thing at one place."""
    parts = list(thing)
    at = numbers.randrange(1, len(parts)) if len(parts) > 1 else 0
    if at > 0:
        parts[at] = changed_part(parts[at], numbers, values, many)
    return tuple(parts)


def changed_function(function, numbers):
    """A function with a small change."""
    blocks = [[params, list(rows), end] for params, rows, end in function[3]]
    values = values_of(function)
    block = numbers.choice(blocks)
    rows = block[1]
    other = numbers.choice(blocks)
    form = numbers.randrange(10)
    if form == 0 and rows:
        del rows[numbers.randrange(len(rows))]
    elif form == 1 and other[1]:
        rows.insert(numbers.randrange(len(rows) + 1), numbers.choice(other[1]))
    elif form == 2 and len(rows) > 1:
        at = numbers.randrange(len(rows) - 1)
        rows[at], rows[at + 1] = rows[at + 1], rows[at]
    elif form in (3, 4) and rows:
        at = numbers.randrange(len(rows))
        rows[at] = changed_tuple(rows[at], numbers, values, len(blocks))
    elif form == 5:
        block[2] = changed_tuple(block[2], numbers, values, len(blocks))
    elif form == 6 and block[2][0] == "if":
        _, test, one, first, two, second = block[2]
        block[2] = numbers.choice((("if", test, two, second, one, first), ("go", one, first), ("go", two, second)))
    elif form == 7:
        block[2] = numbers.choice((other[2], ("trap", numbers.choice(("bounds", "zero", "told")), ("m", 1, 1))))
    elif form == 8 and rows:
        row = rows.pop(numbers.randrange(len(rows)))
        other[1].insert(numbers.randrange(len(other[1]) + 1), row)
    elif form == 9:
        row = ("const", max(values) + 1, numbers.choice((0, 1, 2)), ("m", 1, 1))
        rows.insert(numbers.randrange(len(rows) + 1), row)
    return function[:3] + (tuple((params, tuple(rows), end) for params, rows, end in blocks),)


def some_sum(numbers, values):
    """A sum over old values."""
    value = numbers.choice(values)
    return numbers.choice(((0, ((value, 1),)), (numbers.choice((0, 1, 5)), ((value, numbers.choice((1, 2, 2 ** 32 - 1))),)), (numbers.randrange(2), ())))


def changed_witness(witness, numbers, old, new):
    """A witness with a small change."""
    entries = list(witness)
    at = numbers.randrange(len(entries))
    if entries[at] is None:
        return witness
    stand, rank, told, alike, ways = entries[at]
    lists = [list(told), list(alike)]
    ways = list(ways)
    form = numbers.randrange(7)
    which = numbers.randrange(2)
    values = values_of(old if which else new)
    if form == 0:
        stand = numbers.randrange(len(old[3]))
    elif form == 1:
        rank = numbers.randrange(4)
    elif form in (2, 3):
        lists[which].append((numbers.choice(values), some_sum(numbers, values_of(old))))
    elif form == 4 and lists[which]:
        del lists[which][numbers.randrange(len(lists[which]))]
    elif form == 5 and ways:
        side = numbers.randrange(len(ways))
        ways[side] = numbers.choice(WAYS + (ways[side] + (0,), ways[side][:-1]))
    elif form == 6:
        ways.reverse()
    entries[at] = (stand, rank, tuple(lists[0]), tuple(lists[1]), tuple(ways))
    return tuple(entries)

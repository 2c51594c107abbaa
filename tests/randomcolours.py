"""Random right colourings, by ways gone by this file itself; of the package only the names of rows' parts are used."""

from trueimage.lowcode import low_end_uses, low_gives, low_hands, low_uses

KEPT = (8, 9, 18, 19, 20, 21, 22, 23, 24, 25, 26, 27)
FREE = (28, 29, 30, 31)


def table_of(blocks):
    """What lives into each block, by going round until nothing changes."""
    table = [set() for _ in blocks]
    changed = True
    while changed:
        changed = False
        for number, (params, rows, end) in enumerate(blocks):
            living = points_of(blocks, number, table)[0] - set(params)
            if living != table[number]:
                table[number] = living
                changed = True
    return tuple(tuple(sorted(row)) for row in table)


def points_of(blocks, number, table):
    """What lives at the beginning of a block, and behind each of its rows."""
    _, rows, end = blocks[number]
    living = set(low_end_uses(end))
    for goal, _ in low_hands(end):
        living |= set(table[goal])
    points = [set(living)]
    for row in reversed(rows):
        living.discard(low_gives(row))
        living |= set(low_uses(row))
        points.append(set(living))
    return points[::-1]


def neighbours_of(function, table):
    """For each value those that need another spot, and the values that live over calls."""
    neighbours = {}
    over = set()
    blocks = function[2]
    for number, (params, rows, _) in enumerate(blocks):
        points = points_of(blocks, number, table)
        together = set(params) | set(table[number])
        for value in params:
            neighbours.setdefault(value, set()).update(together - {value})
        for value in together:
            neighbours.setdefault(value, set()).update(set(params) - {value})
        for row, behind in zip(rows, points[1:]):
            given = low_gives(row)
            if given is not None:
                neighbours.setdefault(given, set()).update(behind - {given})
                for value in behind - {given}:
                    neighbours.setdefault(value, set()).add(given)
            if row[0] == "call":
                over |= behind - {given}
    return neighbours, over


def random_colouring(function, numbers, kept=KEPT, free=FREE, words=40, spilled=0.2):
    """A random right colouring, whose table may tell of more than lives."""
    table = table_of(function[2])
    neighbours, over = neighbours_of(function, table)
    spots = {}
    order = sorted(neighbours)
    numbers.shuffle(order)
    for value in order:
        taken = {spots[other] for other in neighbours[value] if other in spots}
        found = [("r", number) for number in kept + (() if value in over else free) if ("r", number) not in taken]
        if not found or numbers.random() < spilled:
            found = [("w", number) for number in range(words) if ("w", number) not in taken]
        spots[value] = numbers.choice(found)
    return table, tuple((value, *spots[value]) for value in sorted(spots))

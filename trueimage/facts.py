"""What is to be known of a function of middle code: its ways, where values are given, and their sorts [18]."""

from trueimage.flow import Flow
from trueimage.kindtexts import ADDRESS, WORD, sorts_told
from trueimage.middlerows import GIVING, gives, hands


class Facts:
    """The facts of a well-formed function."""

    def __init__(self, function):
        self.function = function
        self.blocks = function[3]
        self.flow = flow_of(function[3])
        # For each value: its block, and the number of the row that gives it, -1 for a param.
        self.given = givings(function[3])
        self.sorts = sorts_of(function, self.flow)

    def row_of(self, value):
        """The row that gives a value, None for a param."""
        block, at = self.given[value]
        return None if at < 0 else self.blocks[block][1][at]

    def ahead(self, value, block):
        """Whether a value is given ahead of the rows of a block on every way to it."""
        if value not in self.given:
            return False
        home, at = self.given[value]
        if home == block:
            return at < 0
        return self.flow.passes(home, block)

    def are_ahead(self, values, block):
        """Whether all of these values are given ahead of the rows of a block on every way to it."""
        given, enters, leaves = self.given, self.flow.enters, self.flow.leaves
        here = enters[block]
        for value in values:
            if value not in given:
                return False
            home, at = given[value]
            if home == block and at >= 0:
                return False
            if not enters[home] <= here <= leaves[home]:
                return False
        return True


def flow_of(blocks):
    """The ways through the blocks of a function."""
    return Flow([[goal for goal, _ in hands(end)] for _, _, end in blocks])


def givings(blocks):
    """For each value where it is given, as Facts tells it; None if one is given twice."""
    given = {}
    for number, (params, rows, _) in enumerate(blocks):
        places = [(value, -1) for value in params]
        places.extend([(row[1], at) for at, row in enumerate(rows) if row[0] in GIVING])
        for value, at in places:
            if value in given:
                return None
            given[value] = (number, at)
    return given


def sorts_of(function, flow):
    """The sorts of the values in blocks that can be come to; None if something is of another sort than is wanted."""
    _, kind, _, blocks = function
    sorts = dict(zip(blocks[0][0], sorts_told(kind)))
    for number in flow.order:
        _, rows, end = blocks[number]
        for row in rows:
            if not _wants_hold(WANTS[row[0]], row, sorts):
                return None
            if gives(row) is not None:
                sorts[row[1]] = ADDRESS if row[0] in ("address", "index") else WORD
        if not _wants_hold(WANTS[end[0]], end, sorts):
            return None
        for goal, args in hands(end):
            if not _hand(blocks[goal][0], args, sorts):
                return None
    return sorts


# Where rows and ends use values, and which sort each must have; what calls and tails hand is another matter.
WANTS = {
    "const": (), "op": ((3, WORD), (4, WORD)), "address": (), "index": ((2, ADDRESS), (3, WORD)),
    "load": ((2, ADDRESS),), "store": ((1, ADDRESS), (3, WORD)), "check": ((1, WORD),), "call": (), "enter": (),
    "out": ((1, WORD),), "in": (), "more": (),
    "go": (), "if": ((1, WORD),), "return": ((1, WORD),), "tail": (), "trap": (),
}


def _wants_hold(wants, row, sorts):
    for at, sort in wants:
        if sorts[row[at]] != sort:
            return False
    return True


def _hand(params, args, sorts):
    """Args are handed for params: whether their sorts are those that were handed ahead."""
    for param, arg in zip(params, args):
        if sorts.setdefault(param, sorts[arg]) != sorts[arg]:
            return False
    return True

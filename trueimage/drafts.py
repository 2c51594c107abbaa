"""Drafts: functions that passes change, with what is needed to show that they do the same [25]."""

from trueimage.facts import Facts
from trueimage.flow import Flow
from trueimage.middlerows import end_named, hands, row_named, turned
from trueimage.showing import same, witness_for


class Draft:
    """A function that is being changed."""

    def __init__(self, function):
        self.function = function
        self.facts = Facts(function)
        self.params = [list(params) for params, _, _ in function[3]]
        self.rows = [list(rows) for _, rows, _ in function[3]]
        self.ends = [end for _, _, end in function[3]]
        # For each block, by its turns, the sides that the old function takes.
        self.ways = [plain_ways(end) for end in self.ends]
        # Values that are to be called by another one.
        self.names = {}
        # Sums by which old leaves are told that are given no more.
        self.told = {}
        # Whether they are told also where no more than the new value is wanted of all that hangs on them.
        self.tells_all = False

    def name_of(self, value):
        """The value by which a value is called in the end."""
        last = value
        while last in self.names:
            last = self.names[last]
        while value != last:
            behind = self.names[value]
            self.names[value] = last
            value = behind
        return last

    def rename(self, value, other):
        """A value is called by another one."""
        self.names[value] = other

    def rename_leaf(self, value, other):
        """A leaf is given no more, and is called by another value."""
        self.names[value] = other
        self.told[value] = same(other)

    def changed(self):
        """The function as it is changed."""
        names = self._last_names()
        stands = self._stands()
        places = {number: at for at, number in enumerate(stands)}
        blocks = []
        for number in stands:
            rows = tuple([row_named(row, names) for row in self.rows[number]])
            end = end_named(self.ends[number], names)
            end = turned(end, [(places[goal], args) for goal, args in hands(end)])
            blocks.append((tuple(self.params[number]), rows, end))
        return self.function[:3] + (tuple(blocks),)

    def witness_of(self, new):
        """The witness that the changed function does the same."""
        names = self._last_names()
        stands = self._stands()
        told = {}
        for leaf, (word, pairs) in self.told.items():
            told[leaf] = (word, tuple([(names.get(value, value), many) for value, many in pairs]))
        ways = [self.ways[number] for number in stands]
        return witness_for(self.facts, Facts(new), stands, ways, told, self.tells_all)

    def _last_names(self):
        return {value: self.name_of(value) for value in list(self.names)}

    def _stands(self):
        """The old blocks that are left: those that can be come to now."""
        flow = Flow([[goal for goal, _ in hands(end)] for end in self.ends])
        return [number for number in range(len(self.ends)) if flow.can_come_to(number)]


def plain_ways(end):
    """The ways of a block that turns as the old one does."""
    turns = len(hands(end))
    return tuple([(side,) for side in range(turns)]) if turns > 0 else ((),)

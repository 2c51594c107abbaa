"""Making witnesses [23] for changes in which a new value is what the old one of the same number is.

Beside the old blocks that new ones stand for, and the ways, it is told which old leaves have no new value of their
number, and by what sums they are told.
"""

from trueimage.living import living_into
from trueimage.middlerows import PURE, end_uses, gives, hands, uses


def witness_for(old, new, stands, ways, told, tells_all=False):
    """The witness of a change, of the facts of two functions; stands and ways are those of the new blocks.

    Old leaves are told where old values hang on them, if it tells all, else where these aren't known as new ones.
    """
    showing = Showing(old, new, stands, ways, told, tells_all)
    pairs = {value: (value, same(value)) for value in new.given}
    entries = []
    for number in range(len(new.blocks)):
        if new.flow.can_come_to(number):
            needed = showing.needed[number]
            known = tuple([pairs[value] for value in sorted(needed) if needed[value]])
            alike = tuple([(leaf, told[leaf]) for leaf in sorted(showing.alike[number])])
            entries.append((stands[number], 0, known, alike, ways[number]))
        else:
            entries.append(None)
    return tuple(entries)


def same(value):
    """The sum of a value alone."""
    return (0, ((value, 1),))


class Showing:
    """What has to be told where each new block begins."""

    def __init__(self, old, new, stands, ways, told, tells_all):
        self.old = old
        self.new = new
        self.stands = stands
        self.ways = ways
        self.told = told
        # For each block the values that it or later ones want: whether they can be told, else what they are made of is.
        self.needed = [{} for _ in new.blocks]
        self._find_needed()
        # For each block the old leaves of which something has to be told.
        self.alike = [{} for _ in new.blocks]
        if told:
            self._find_alike(tells_all)

    def _find_needed(self):
        # For each value the blocks where it has to be looked at; values are looked at one behind another.
        blocks = {}
        for number in self.new.flow.order:
            for value in used_ahead(self.new, number):
                blocks.setdefault(value, []).append(number)
        values = list(blocks)
        while values:
            value = values.pop()
            found = self._follow(value, blocks.pop(value))
            for other, number in found:
                if other not in blocks:
                    blocks[other] = []
                    values.append(other)
                blocks[other].append(number)

    def _follow(self, value, pile):
        """A value is needed in blocks, and in those ahead of them; pairs of other values that are, and a block."""
        home, at = self.new.given[value]
        row = self.new.row_of(value)
        others = []
        while pile:
            number = pile.pop()
            needed = self.needed[number]
            if value not in needed:
                needed[value] = self.old.ahead(value, self.stands[number])
                if not needed[value]:
                    if row is not None and row[0] in PURE:
                        others.extend([(part, number) for part in uses(row)])
                elif home == number and at < 0:
                    others.extend(self._handed_to(value, number))
                else:
                    pile.extend([before for before in self.new.flow.befores[number] if before != home or at < 0])
        return others

    def _handed_to(self, param, number):
        """Pairs of what is handed for a param, where no row of the block that hands it gives it, and this block."""
        at = self.new.blocks[number][0].index(param)
        found = []
        for before in self.new.flow.befores[number]:
            for goal, args in hands(self.new.blocks[before][2]):
                if goal == number:
                    home, row = self.new.given[args[at]]
                    if home != before or row < 0:
                        found.append((args[at], before))
        return found

    def _find_alike(self, tells_all):
        hanging = self._hanging()
        lives = living_of(self.old)
        pile = []
        for number in self.new.flow.order:
            stand = self.stands[number]
            needed = self.needed[number]
            for value in lives[stand] + list(self.old.blocks[stand][0]):
                if tells_all or not needed.get(value, False):
                    pile.extend([(number, leaf) for leaf in hanging.get(value, ())])
        while pile:
            number, leaf = pile.pop()
            if leaf not in self.alike[number]:
                self.alike[number][leaf] = True
                for before in self.new.flow.befores[number]:
                    if self._is_unchanged(before, number, leaf):
                        pile.append((before, leaf))

    def _hanging(self):
        """For each old value that hangs on leaves of which something is told, these leaves."""
        hanging = {leaf: (leaf,) for leaf in self.told}
        for number in self.old.flow.order:
            for row in self.old.blocks[number][1]:
                if row[0] in ("op", "index"):
                    leaves = {}
                    for value in uses(row):
                        leaves.update({leaf: True for leaf in hanging.get(value, ())})
                    if leaves:
                        hanging[row[1]] = tuple(leaves)
        return hanging

    def _is_unchanged(self, before, number, leaf):
        """Whether an old leaf isn't given on a way from one new block to another one."""
        home, at = self.old.given[leaf]
        for (goal, _), way in zip(hands(self.new.blocks[before][2]), self.ways[before]):
            if goal == number:
                path = blocks_on(self.old, self.stands[before], way)
                if home not in (path[1:] if at < 0 else path[:-1]):
                    return True
        return False


def blocks_on(old, block, way):
    """The old blocks that a way goes through, from a block on, the one that it comes to as the last one."""
    path = [block]
    for side in way:
        block = hands(old.blocks[block][2])[side][0]
        path.append(block)
    return path


def used_ahead(facts, number):
    """The values that a block uses and doesn't give by its rows."""
    _, rows, end = facts.blocks[number]
    found = {}
    for row in rows:
        for value in uses(row):
            found[value] = True
    for value in end_uses(end):
        found[value] = True
    for row in rows:
        if gives(row) in found:
            del found[row[1]]
    return list(found)


def living_of(facts):
    """For each block of a function the list of the values that live into it, its params not among them."""
    given = []
    used = []
    for number, (params, rows, _) in enumerate(facts.blocks):
        here = {value: True for value in params}
        ahead = []
        if facts.flow.can_come_to(number):
            ahead = [value for value in used_ahead(facts, number) if value not in here]
        for row in rows:
            if gives(row) is not None:
                here[row[1]] = True
        given.append(here)
        used.append(ahead)
    return living_into(facts.flow.befores, given, used)

"""Webs: spilled values that are handed for one another, and can stand in one word of the frame [45].

If each value had any word that is not in use, one that takes the word of another one would make that take a third
one's, and so on, and all of them would be moved wherever they are handed.
"""

from trueimage.lives import living_behind
from trueimage.lowcode import low_gives, low_uses

# Webs don't grow beyond so many values, as all of them are looked at when webs are joined.
MOST_MEMBERS = 500


class Webs:
    """The webs of some values of a function."""

    def __init__(self, walk, values):
        self.walk = walk
        # For each value its web, and for each web its members: where they are given, in the order of the walk.
        self.webs = {value: value for value in values}
        self.members = self._find_members()
        # For each block what lives behind its rows, and where each value is used last by a row.
        self.living = {}
        self.lasts = {}
        handed = walk.find_handed()
        for _, param, arg in sorted([(-many, param, arg) for (param, arg), many in handed.items()]):
            if param in self.webs and arg in self.webs:
                self._join(self.webs[param], self.webs[arg])

    def web_of(self, value):
        """The web of a value, None if it stands alone."""
        web = self.webs[value]
        return web if len(self.members[web]) > 1 else None

    def find_homes(self, most):
        """For each web of more values than one a word, below so many, that no other one has in its blocks.

        The blocks of a web are taken to be all from its first to its last one.
        """
        spans = self._spans()
        begins = [[] for _ in self.walk.blocks]
        ends = [[] for _ in self.walk.blocks]
        for web in sorted(spans):
            first, last = spans[web]
            begins[first].append(web)
            ends[last].append(web)
        homes = {}
        unused = list(range(most - 1, -1, -1))
        for begun, ended in zip(begins, ends):
            for web in begun:
                if unused:
                    homes[web] = unused.pop()
            unused.extend([homes[web] for web in ended if web in homes])
        return homes

    def _spans(self):
        """For each web of more values than one the first and the last place of its blocks in their order."""
        spans = {}
        for at, number in enumerate(self.walk.flow.order):
            params, rows, _ = self.walk.blocks[number]
            values = list(self.walk.table[number]) + list(params) + [low_gives(row) for row in rows]
            for value in values:
                web = self.web_of(value) if value in self.webs else None
                if web is not None:
                    first, _ = spans.get(web, (at, at))
                    spans[web] = (first, at)
        return spans

    def _find_members(self):
        """For each value its web of one: (number of its block in the walk, row, -1 for a param, block, value)."""
        members = {}
        for number in self.walk.flow.order:
            params, rows, _ = self.walk.blocks[number]
            enter = self.walk.flow.enters[number]
            for param in params:
                members[param] = [(enter, -1, number, param)]
            for at, row in enumerate(rows):
                if low_gives(row) is not None:
                    members[low_gives(row)] = [(enter, at, number, low_gives(row))]
        return {value: members[value] for value in self.webs}

    def _join(self, one, other):
        """Two webs become one, if no value of them lives where another one is given."""
        together = self.members[one] + self.members[other]
        if one == other or len(together) > MOST_MEMBERS:
            return
        together = sorted(together)
        if self._do_not_meet(together):
            for _, _, _, value in self.members[other]:
                self.webs[value] = one
            self.members[one] = together

    def _do_not_meet(self, members):
        """Whether no member lives where another one is given.

        Of those that are given ahead of a member on every way it is enough to look at the last one: where an earlier
        one lives there, it lives where that one is given, too.
        """
        pile = []
        for member in members:
            while pile and not self.walk.flow.passes(pile[-1][2], member[2]):
                pile.pop()
            if pile and self._lives(pile[-1], member):
                return False
            pile.append(member)
        return True

    def _lives(self, ahead, member):
        """Whether a value lives behind the giving of one that is given later; params of one block live together."""
        _, row, number, _ = member
        if ahead[1:3] == (-1, number) and row == -1:
            return True
        if number not in self.living:
            self._look_at_block(number)
        return ahead[3] in self.living[number] or self.lasts[number].get(ahead[3], -1) > row

    def _look_at_block(self, number):
        block = self.walk.blocks[number]
        self.living[number] = living_behind(block, self.walk.table)
        lasts = {}
        for at, row in enumerate(block[1]):
            for value in low_uses(row):
                lasts[value] = at
        self.lasts[number] = lasts

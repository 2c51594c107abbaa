"""The pass "again": what was made, loaded or checked ahead [25]."""

from trueimage.middlerows import PURE, gives
from trueimage.terms import Terms
from trueimage.worths import leaf_term, pure_term


def again(draft):
    """Leave out of a draft what was made, loaded or checked ahead."""
    # What is the same may be so because leaves are, so these have to be told wherever anything hangs on them.
    draft.tells_all = True
    repeating = Repeating(draft)
    for number in draft.facts.flow.tree:
        repeating.look_at_block(number)


class Repeating:
    """Finds what is made again, block by block: each one behind the block right above it."""

    def __init__(self, draft):
        self.draft = draft
        self.facts = draft.facts
        self.terms = Terms()
        self.known = {}
        # For each term a value that has it, and its block.
        self.made = {}
        self.loads = {}
        self.checked = {}
        self.changes = 0

    def look_at_block(self, number):
        """Leave out of a block what was made ahead."""
        for param in self.facts.blocks[number][0]:
            self._new_leaf(param, number)
        self.loads = {}
        self.checked = {}
        rows = []
        for row in self.facts.blocks[number][1]:
            if row[0] in PURE:
                keeps = self._pure(row, number)
            elif row[0] == "load":
                keeps = self._load(row, number)
            elif row[0] == "check":
                keeps = self._check(row)
            else:
                keeps = True
                self._effect(row, number)
            if keeps:
                rows.append(row)
        self.draft.rows[number] = rows

    def _new_leaf(self, value, number):
        term = leaf_term(self.terms, ("old", value), self.facts.sorts[value])
        self.known[value] = term
        self.made[term] = (value, number)

    def _pure(self, row, number):
        """Whether what a pure row gives wasn't made ahead."""
        term = pure_term(self.terms, row, self.known)
        self.known[row[1]] = term
        if len(term) == 2 and term[1] == 0:
            # A word is as easily made again as kept.
            return True
        if term in self.made and self.facts.flow.passes(self.made[term][1], number):
            self.draft.rename(row[1], self.made[term][0])
            return False
        self.made[term] = (row[1], number)
        return True

    def _load(self, row, number):
        """Whether what a load gives wasn't loaded or stored ahead in the block."""
        key = (self.changes, self.terms.behind(self.known[row[2]], row[3]))
        if key in self.loads:
            other = self.loads[key]
            self.draft.rename_leaf(row[1], other)
            self.known[row[1]] = self.known[other]
            return False
        self._new_leaf(row[1], number)
        self.loads[key] = row[1]
        return True

    def _check(self, row):
        """Whether a check wasn't made ahead in the block."""
        turn = self.terms.turn(self.known[row[1]])
        if turn in self.checked:
            return False
        if turn[0] is not None:
            self.checked[turn] = True
        return True

    def _effect(self, row, number):
        if gives(row) is not None:
            self._new_leaf(row[1], number)
        if row[0] in ("call", "store"):
            self.changes += 1
        if row[0] == "store":
            self.loads[(self.changes, self.terms.behind(self.known[row[1]], row[2]))] = row[3]

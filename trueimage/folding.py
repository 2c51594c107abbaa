"""The pass "fold": words worked out, checks and turns that are known [25]."""

from trueimage.drafts import plain_ways
from trueimage.middlerows import PURE
from trueimage.terms import Terms
from trueimage.worths import Worths


def fold(draft):
    """Fold a draft."""
    folding = Folding(draft)
    for number in draft.facts.flow.order:
        folding.fold_rows(number)
        folding.fold_end(number)


class Folding:
    """Folds what is known of a function's values by pure rows."""

    def __init__(self, draft):
        self.draft = draft
        self.facts = draft.facts
        self.terms = Terms()
        self.worths = Worths(self.terms, draft.facts, "old", {})

    def fold_rows(self, number):
        """Fold the rows of a block."""
        rows = []
        for row in self.facts.blocks[number][1]:
            if row[0] in PURE:
                row = self._pure(row)
            elif row[0] == "check":
                core, positive = self.terms.turn(self.worths.term(row[1]))
                if core is None and not positive:
                    self.draft.rows[number] = rows
                    self.draft.ends[number] = ("trap", row[2], row[3])
                    self.draft.ways[number] = ((),)
                    return
                row = self._check(row) if core is not None else None
            if row is not None:
                rows.append(row)
        self.draft.rows[number] = rows

    def _pure(self, row):
        """A pure row folded, None if another value is what it gives."""
        term = self.worths.term(row[1])
        if len(term) == 2 and term[1] == 0:
            return ("const", row[1], term[0], row[-1])
        leaf = self._leaf(term)
        if leaf is None:
            return row
        self.draft.rename(row[1], leaf)
        return None

    def _leaf(self, term):
        """The leaf whose term this is, or None."""
        if len(term) == 3:
            key = self.terms.told_by[term[0]] if term[1:] == (0, 0) else ("object", 0)
        else:
            alone = self.terms.sums.alone(term[1])
            if alone is None or term[0] != 0 or alone[1] != 1:
                return None
            key = self.terms.told_by[alone[0]]
        return key[1] if key[0] == "old" else None

    def _check(self, row):
        value, positive = self._without_denials(row[1])
        return ("check", value) + row[2:] if positive else row

    def _without_denials(self, value):
        """A value, and whether it is so that it isn't 0 just if the first one isn't."""
        positive = True
        while True:
            row = self.facts.row_of(value)
            if row is None or row[:1] != ("op",) or row[2] != "eq":
                return value, positive
            if self.worths.term(row[4]) == (0, 0):
                value = row[3]
            elif self.worths.term(row[3]) == (0, 0):
                value = row[4]
            else:
                return value, positive
            positive = not positive

    def fold_end(self, number):
        """Fold the end of a block."""
        end = self.draft.ends[number]
        if end[0] != "if":
            return
        core, positive = self.terms.turn(self.worths.term(end[1]))
        if core is None:
            at = 2 if positive else 4
            self.draft.ends[number] = ("go",) + end[at:at + 2]
            self.draft.ways[number] = ((0 if positive else 1,),)
            return
        value, positive = self._without_denials(end[1])
        self.draft.ends[number] = ("if", value) + (end[2:] if positive else end[4:] + end[2:4])
        ways = plain_ways(end)
        self.draft.ways[number] = ways if positive else (ways[1], ways[0])

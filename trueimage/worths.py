"""What values are, as terms, where a block begins: by pure rows from leaves [22], and by what is told of some."""

from trueimage.kindtexts import ADDRESS
from trueimage.middlerows import PURE


def pure_term(terms, row, known):
    """The term of what a pure row gives, the terms of what it uses being known."""
    if row[0] == "const":
        return (row[2], 0)
    if row[0] == "op":
        return terms.work(row[2], known[row[3]], known[row[4]])
    if row[0] == "address":
        return terms.base(("object", row[2]))
    return terms.indexed(known[row[2]], known[row[3]], row[4])


def sum_term(terms, told, known):
    """The term of a sum over values whose terms are known."""
    word, pairs = told
    if word == 0 and len(pairs) == 1 and pairs[0][1] == 1:
        return known[pairs[0][0]]
    return terms.sum_of(word, [(known[value], many) for value, many in pairs])


class Worths:
    """The terms of a function's values."""

    def __init__(self, terms, facts, side, alike):
        self.terms = terms
        self.facts = facts
        # Leaves of unlike sides are unlike, though they may have the same number.
        self.side = side
        # What is told of leaves: sums over other values.
        self.alike = alike
        self.known = {}

    def term(self, value):
        """The term of a value."""
        known = self.known
        if value not in known:
            begun = {}
            pile = [value]
            while pile:
                top = pile[-1]
                wanted = [part for part in self._parts(top) if part not in known]
                if top in known or not wanted or top in begun:
                    pile.pop()
                    if top not in known:
                        # Where what is told goes round in a ring, the value stands for itself.
                        known[top] = self._leaf(top) if wanted else self._made(top)
                else:
                    begun[top] = True
                    pile.extend(wanted)
        return known[value]

    def _parts(self, value):
        """The values by which a value is told."""
        if value in self.alike:
            return [part for part, _ in self.alike[value][1]]
        row = self.facts.row_of(value)
        if row is None or row[0] not in PURE or row[0] in ("const", "address"):
            return []
        return [row[3], row[4]] if row[0] == "op" else [row[2], row[3]]

    def _made(self, value):
        if value in self.alike:
            return sum_term(self.terms, self.alike[value], self.known)
        row = self.facts.row_of(value)
        if row is None or row[0] not in PURE:
            return self._leaf(value)
        return pure_term(self.terms, row, self.known)

    def _leaf(self, value):
        return leaf_term(self.terms, (self.side, value), self.facts.sorts[value])


def leaf_term(terms, key, sort):
    """The term of a value of this sort of which no more is known than its key."""
    return terms.base(key) if sort == ADDRESS else terms.leaf(key)

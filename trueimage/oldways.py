"""The way of an old run beside one new block [24]: its effects, loads and turns, as terms.

An EFFECT is a tuple: ("check", core, positive, kind, place), ("store", address, term, place),
("call", name, args, deeper, place), ("enter", deeper, place), ("out", term, place), ("in", place), ("more", place),
and, as the last one, how the run or the call ends: ("trap", kind, place), ("return", term),
("tail", name, args, deeper, place).
"""

from trueimage.middlerows import PURE, hands
from trueimage.witnessforms import is_alone
from trueimage.worths import leaf_term, pure_term

CHECK = "check"
TRAP = "trap"


class Known:
    """The terms of what a block uses: what was given on the way, or ahead of it."""

    def __init__(self, worths):
        self.worths = worths
        self.given = {}

    def term(self, value):
        """The term of a value."""
        if value in self.given:
            return self.given[value]
        return self.worths.term(value)

    def all_terms(self, values):
        """The terms of values."""
        return tuple([self.term(value) for value in values])

    def told_terms(self, told):
        """The terms of the sums that are told of values, one for each."""
        given, worths, known = self.given, self.worths, self.worths.known
        terms = []
        for _, by in told:
            if is_alone(by):
                value = by[1][0][0]
                if value in given:
                    terms.append(given[value])
                else:
                    terms.append(known[value] if value in known else worths.term(value))
            else:
                pairs = [(self.term(value), many) for value, many in by[1]]
                terms.append(worths.terms.sum_of(by[0], pairs))
        return terms

    def give_pure(self, row):
        """A pure row is done."""
        known = {}
        if row[0] == "op":
            known = {row[3]: self.term(row[3]), row[4]: self.term(row[4])}
        elif row[0] == "index":
            known = {row[2]: self.term(row[2]), row[3]: self.term(row[3])}
        self.given[row[1]] = pure_term(self.worths.terms, row, known)

    def address(self, row, at):
        """The term of the address that a load or a store tells, a value and a number of words behind it."""
        return self.worths.terms.behind(self.term(row[at]), row[at + 1])


def effect_of(row, known):
    """The effect of a row; None for a check that can't fail."""
    sort = row[0]
    if sort == CHECK:
        core, positive = known.worths.terms.turn(known.term(row[1]))
        if core is not None:
            return (CHECK, core, positive, row[2], row[3])
        return None if positive else (TRAP, row[2], row[3])
    if sort == "store":
        return ("store", known.address(row, 1), known.term(row[3]), row[4])
    if sort == "call":
        return ("call", row[2], known.all_terms(row[3]), row[4], row[5])
    if sort == "out":
        return ("out", known.term(row[1]), row[2])
    return row if sort == "enter" else (sort, row[2])


def last_effect(end, known):
    """How a run or a call ends at an end that goes to no block; None for other ends."""
    if end[0] == "return":
        return ("return", known.term(end[1]))
    if end[0] == "tail":
        return ("tail", end[1], known.all_terms(end[2]), end[3], end[4])
    return end if end[0] == TRAP else None


def is_last(effect):
    """Whether nothing is done behind this effect."""
    return effect[0] in (TRAP, "return", "tail")


class OldWay:
    """What an old run does from the beginning of a block on."""

    def __init__(self, worths, block):
        self.facts = worths.facts
        self.terms = worths.terms
        self.known = Known(worths)
        self.block = block
        self.effects = []
        # For each effect the term of what it gave, or None.
        self.gave = []
        # For how often memory was changed, and an address: how many effects came ahead, and the term of its word.
        self.loads = {}
        self.changes = 0
        # For each turn that isn't known: how many effects came ahead, its core, and whether that is to be not 0.
        self.turns = []
        self.ended = False
        self.counts = {}

    def go(self, way, to_end):
        """Take these sides, and come to the end of the block behind them if that is wanted: whether this can be so."""
        for side in way:
            self._do_rows()
            if not self.ended and not self._turn(side):
                return False
            if self.ended:
                return True
        if to_end:
            self._do_rows()
            if not self.ended:
                effect = last_effect(self.facts.blocks[self.block][2], self.known)
                if effect is None:
                    return False
                self._add(effect, None)
        return True

    def _do_rows(self):
        for row in self.facts.blocks[self.block][1]:
            if row[0] in PURE:
                self.known.give_pure(row)
            elif row[0] == "load":
                self._load(row)
            else:
                self._do(row)
            if self.ended:
                return

    def _do(self, row):
        effect = effect_of(row, self.known)
        if effect is None:
            return
        given = None
        if row[0] in ("call", "in", "more"):
            given = self._new_leaf(row[1])
            self.known.given[row[1]] = given
        self._add(effect, given)
        if row[0] in ("call", "store"):
            self.changes += 1
        if row[0] == "store":
            # Behind a store its word is what a load there gives.
            self.loads[(self.changes, effect[1])] = (len(self.effects), effect[2])

    def _add(self, effect, given):
        self.effects.append(effect)
        self.gave.append(given)
        self.ended = is_last(effect)

    def _load(self, row):
        key = (self.changes, self.known.address(row, 2))
        if key not in self.loads:
            self.loads[key] = (len(self.effects), self._new_leaf(row[1]))
        self.known.given[row[1]] = self.loads[key][1]

    def _new_leaf(self, value):
        """The term of a leaf that is given anew."""
        self.counts[value] = self.counts.get(value, 0) + 1
        return leaf_term(self.terms, ("way", value, self.counts[value]), self.facts.sorts[value])

    def _turn(self, side):
        """The block's end takes a side: whether it can."""
        end = self.facts.blocks[self.block][2]
        goals = hands(end)
        if end[0] == TRAP:
            self._add(end, None)
            return True
        if side >= len(goals):
            return False
        if end[0] == "if":
            core, positive = self.terms.turn(self.known.term(end[1]))
            if core is None and positive != (side == 0):
                return False
            if core is not None:
                self.turns.append((len(self.effects), core, positive == (side == 0)))
        goal, args = goals[side]
        handed = self.known.all_terms(args)
        for param, term in zip(self.facts.blocks[goal][0], handed):
            self.known.given[param] = term
        self.block = goal
        return True

"""A new block beside an old way: whether it does the same [24]."""

from trueimage.middlerows import PURE
from trueimage.oldways import CHECK, TRAP, Known, effect_of, is_last, last_effect


class Beside:
    """The rows of a new block beside the effects of an old way."""

    def __init__(self, worths, way):
        self.known = Known(worths)
        self.way = way
        # How many of the old effects have been come past.
        self.at = 0
        self.checked = {}
        # The old checks that were left out though they weren't made ahead: the turn must tell that they don't fail.
        self.wanted = []
        self.changes = 0
        self.ended = False

    def does_same(self, block):
        """Whether the block does what the old way does, but for what is wanted of the turn."""
        _, rows, end = block
        for row in rows:
            if row[0] in PURE:
                self.known.give_pure(row)
            elif not (self._load(row) if row[0] == "load" else self._do(row)):
                return False
            if self.ended:
                return True
        effect = last_effect(end, self.known)
        if effect is not None:
            return self._effect(effect)
        while self.at < len(self.way.effects):
            if not self._leave_out():
                return False
        return True

    def _load(self, row):
        """A new load must be one that the old way made, by now."""
        key = (self.changes, self.known.address(row, 2))
        if key not in self.way.loads:
            return False
        ahead, term = self.way.loads[key]
        while self.at < ahead:
            if not self._leave_out():
                return False
        self.known.given[row[1]] = term
        return True

    def _do(self, row):
        effect = effect_of(row, self.known)
        if effect is None or (effect[0] == CHECK and effect[1:3] in self.checked):
            return True
        if not self._effect(effect):
            return False
        if row[0] in ("call", "in", "more"):
            self.known.given[row[1]] = self.way.gave[self.at - 1]
        if row[0] in ("call", "store"):
            self.changes += 1
        return True

    def _effect(self, effect):
        """The next old effect must be this one."""
        effects = self.way.effects
        while self.at < len(effects) and effects[self.at] != effect:
            if not self._leave_out():
                return False
        if self.at == len(effects):
            return False
        self.at += 1
        if effect[0] == CHECK:
            self.checked[effect[1:3]] = True
        self.ended = is_last(effect)
        return True

    def _leave_out(self):
        """The next old effect is left out: whether it is a check."""
        effect = self.way.effects[self.at]
        if effect[0] != CHECK:
            return False
        if effect[1:3] not in self.checked:
            self.wanted.append(effect[1:3])
        self.at += 1
        return True

    def turns_so(self, told):
        """Whether the old way turns as it does by what the new turn tells, (core, whether it isn't 0) or None."""
        for fact in self.wanted:
            if fact != told:
                return False
        checked = {}
        for at, effect in enumerate(self.way.effects):
            if effect[0] == CHECK and effect[1:3] not in checked:
                checked[effect[1:3]] = at
        for ahead, core, positive in self.way.turns:
            fact = (core, positive)
            if fact != told and (fact not in checked or checked[fact] >= ahead):
                return False
        return True


def turn_of(block, known):
    """On what it hangs which turn the end of a block takes, what it gives being known; None if it has but one."""
    end = block[2]
    if end[0] != "if":
        return None
    return known.worths.terms.turn(known.term(end[1]))


class Ahead:
    """What is known of a new block alone, by the rows that it has."""

    def __init__(self, worths):
        self.known = Known(worths)
        self.loads = {}
        self.changes = 0
        self.checked = {}
        self.fails = False

    def do(self, row):
        """A row is done."""
        known = self.known
        if row[0] in PURE:
            known.give_pure(row)
        elif row[0] == CHECK:
            effect = effect_of(row, known)
            if effect is not None:
                self.fails = self.fails or effect[0] == TRAP
                self.checked[effect[1:3]] = True
        elif row[0] == "load":
            key = (self.changes, known.address(row, 2))
            known.given[row[1]] = self.loads.setdefault(key, known.worths.term(row[1]))
        elif row[0] in ("call", "store"):
            self.changes += 1
            if row[0] == "store":
                self.loads[(self.changes, known.address(row, 1))] = known.term(row[3])


def turns_to_look_at(block, worths):
    """The turns that a block may take, whether they have to tell something, and whether the block always fails.

    They are taken from what is known of the block alone, so that no way is needed for a turn that is never taken.
    """
    if block[2][0] != "if":
        return (0,), False, False
    ahead = Ahead(worths)
    for row in block[1]:
        ahead.do(row)
        if ahead.fails:
            return (0, 1), False, True
    core, positive = turn_of(block, ahead.known)
    if core is None:
        return (0 if positive else 1,), False, False
    for truth in (True, False):
        if (core, truth) in ahead.checked:
            return (0 if positive == truth else 1,), False, False
    return (0, 1), True, False

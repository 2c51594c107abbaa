"""The checker of changes [23], [24]: whether a witness shows that a new function does what an old one does."""

from trueimage.errors import BadWitness
from trueimage.facts import Facts
from trueimage.middle import wrong_function
from trueimage.middlerows import hands
from trueimage.newblocks import Beside, turn_of, turns_to_look_at
from trueimage.oldways import Known, OldWay
from trueimage.terms import Terms
from trueimage.witnessforms import are_alike_right, are_told_right, is_entry, is_way
from trueimage.worths import Worths


def check_change(old, new, witness):
    """BadWitness unless a new function is well-formed and a witness shows that it does what the old one does."""
    why = wrong_function(new)
    if why is not None:
        raise BadWitness(None, why)
    if old[:3] != new[:3]:
        raise BadWitness(None, "name, kind or slots")
    if not isinstance(witness, tuple) or len(witness) != len(new[3]):
        raise BadWitness(None, "form")
    Change(Facts(old), Facts(new), witness).look()


def is_same_by(old, new, witness):
    """Whether a witness shows that a new function does what an old one does."""
    try:
        check_change(old, new, witness)
    except BadWitness:
        return False
    return True


def factor_of(new, witness):
    """How many steps come at most for one, and as many more, by a witness that was let by."""
    ahead = [len(rows) + 1 for _, rows, _ in new[3]]
    most = 1
    # Where a way is empty the rank falls, so blocks of higher ranks come first.
    for _, number in sorted([(-witness[number][1], number) for number in Facts(new).flow.order]):
        most = max(most, ahead[number])
        for (goal, _), way in zip(hands(new[3][number][2]), witness[number][4]):
            if way == ():
                ahead[goal] = max(ahead[goal], ahead[number] + len(new[3][goal][1]) + 1)
    return most


class Change:
    """A change of a function, of two well-formed ones."""

    def __init__(self, old, new, witness):
        self.old = old
        self.new = new
        self.witness = witness
        self.terms = Terms()
        # What old values are, by what is told of leaves.
        self.worths = {}

    def look(self):
        """BadWitness if the witness doesn't show it."""
        for number in self.new.flow.order:
            self._look_at_form(number)
        self._look_at_beginning()
        for number in self.new.flow.order:
            self._look_at_block(number)

    def _look_at_form(self, number):
        turns = max(1, len(hands(self.new.blocks[number][2])))
        entry = self.witness[number]
        if not is_entry(entry, turns) or not self.old.flow.can_come_to(entry[0]):
            raise BadWitness(number, "form")
        stand, _, told, alike, _ = entry
        if not are_told_right(told, number, stand, self.new, self.old):
            raise BadWitness(number, "told")
        if not are_alike_right(alike, stand, self.old):
            raise BadWitness(number, "alike")

    def _look_at_beginning(self):
        stand, _, told, alike, _ = self.witness[0]
        if stand != 0 or alike != ():
            raise BadWitness(0, "beginning")
        worths = self._old_worths(())
        params = dict(zip(self.new.blocks[0][0], self.old.blocks[0][0]))
        for (value, _), term in zip(told, Known(worths).told_terms(told)):
            if value not in params or term != worths.term(params[value]):
                raise BadWitness(0, "beginning")

    def _old_worths(self, alike):
        if alike not in self.worths:
            self.worths[alike] = Worths(self.terms, self.old, "old", dict(alike))
        return self.worths[alike]

    def _look_at_block(self, number):
        _, _, told, alike, _ = self.witness[number]
        old = self._old_worths(alike)
        new = Worths(self.terms, self.new, "new", {})
        for (value, _), term in zip(told, Known(old).told_terms(told)):
            new.known[value] = term
        turns, tells, fails = turns_to_look_at(self.new.blocks[number], new)
        shown = [self._shows(number, turn, tells, old, new) for turn in turns]
        # A block that always fails takes no turn, so either way is enough.
        if True not in shown or (False in shown and not fails):
            raise BadWitness(number, "way")

    def _shows(self, number, turn, tells, old, new):
        """Whether a way shows a turn of a block; if it tells something, that may be used."""
        stand, rank, _, _, ways = self.witness[number]
        block = self.new.blocks[number]
        goals = hands(block[2])
        if not is_way(ways[turn]):
            return False
        way = OldWay(old, stand)
        if not way.go(ways[turn], not goals):
            return False
        beside = Beside(new, way)
        if not beside.does_same(block):
            return False
        if beside.ended:
            return beside.turns_so(None)
        fact = None
        if tells:
            core, positive = turn_of(block, beside.known)
            fact = (core, positive == (turn == 0))
        if not beside.turns_so(fact):
            return False
        goal, args = goals[turn]
        if ways[turn] == () and self.witness[goal][1] >= rank:
            return False
        return self._comes_to(goal, beside.known.all_terms(args), beside.known, way)

    def _comes_to(self, goal, args, known, way):
        """Whether all that is told where a block begins is so where a way ends."""
        stand, _, told, alike, _ = self.witness[goal]
        if way.block != stand:
            return False
        handed = dict(zip(self.new.blocks[goal][0], args))
        for (value, _), term in zip(told, way.known.told_terms(told)):
            if term != (handed[value] if value in handed else known.term(value)):
                return False
        for (value, _), term in zip(alike, way.known.told_terms(alike)):
            if term != way.known.term(value):
                return False
        return True

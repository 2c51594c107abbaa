"""The pass "thread": jumps led on past blocks that do nothing but go on [25]."""

from trueimage.middlerows import end_uses, hands, named, turned, uses


def thread(draft):
    """Lead jumps of a draft on."""
    leading = Leading(draft)
    for number in draft.facts.flow.order:
        leading.lead(number)


class Leading:
    """Leads jumps on, by the blocks as they were at first."""

    def __init__(self, draft):
        self.draft = draft
        self.facts = draft.facts
        self.passable = _passable(draft.facts)

    def lead(self, number):
        """Lead the turns of a block on."""
        end = self.facts.blocks[number][2]
        if end[0] == "if":
            first = self._led(end[2], end[3], (0,), (end[1], 0))
            second = self._led(end[4], end[5], (1,), (end[1], 1))
            self.draft.ends[number] = turned(end, [first[:2], second[:2]])
            self.draft.ways[number] = (first[2], second[2])
        elif end[0] == "go":
            goal, args, way = self._led(end[1], end[2], (0,), (None, 0))
            self.draft.ends[number] = ("go", goal, args)
            self.draft.ways[number] = (way,)
            if self.passable[goal]:
                self._turn_here(number, goal, args, way)

    def _led(self, goal, args, way, known):
        """Where a jump comes to in the end: a block, what is handed to it, and the sides that are taken up to there.

        Known is a value, and the turn that was taken by it.
        """
        gone = {}
        while self.passable[goal] and goal not in gone:
            gone[goal] = True
            params, _, end = self.facts.blocks[goal]
            names = dict(zip(params, args))
            side = self._side(end, names, known)
            if side is None:
                return goal, args, way
            behind, handed = hands(end)[side]
            goal, args, way = behind, named(handed, names), way + (side,)
        return goal, args, way

    def _side(self, end, names, known):
        """The side that an end surely takes, or None."""
        if end[0] == "go":
            return 0
        test = names.get(end[1], end[1])
        if test == known[0]:
            return known[1]
        row = self.facts.row_of(test)
        if row is None or row[0] != "const":
            return None
        return 0 if row[2] != 0 else 1

    def _turn_here(self, number, goal, args, way):
        """The turn at the end of a block that does nothing else is taken ahead of going there."""
        params, _, end = self.facts.blocks[goal]
        if end[0] != "if":
            return
        names = dict(zip(params, args))
        test = names.get(end[1], end[1])
        led = []
        for side, (behind, handed) in enumerate(hands(end)):
            led.append(self._led(behind, named(handed, names), way + (side,), (test, side)))
        self.draft.ends[number] = turned(("if", test), [(block, handed) for block, handed, _ in led])
        self.draft.ways[number] = tuple([sides for _, _, sides in led])


def _passable(facts):
    """For each block whether it only goes on, or turns, and no other block uses its params."""
    passable = []
    for _, rows, end in facts.blocks:
        passable.append(not rows and end[0] in ("go", "if"))
    for number in facts.flow.order:
        _, rows, end = facts.blocks[number]
        used = list(end_uses(end))
        for row in rows:
            used.extend(uses(row))
        for value in used:
            home = facts.given[value][0]
            if home != number:
                passable[home] = False
    return passable

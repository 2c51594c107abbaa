"""The pass "params": params that are always handed one value [25]."""

from trueimage.middlerows import hands, turned

MOST_ROUNDS = 8


def params(draft):
    """Take params from a draft that are always handed one value."""
    finding = SameParams(draft)
    rounds = 0
    while finding.find() and rounds < MOST_ROUNDS:
        rounds += 1
    finding.take_away()


class SameParams:
    """Finds params that are always handed one value, or one word."""

    def __init__(self, draft):
        self.draft = draft
        self.facts = draft.facts
        # For each block the args of each way there.
        self.handed = [[] for _ in draft.facts.blocks]
        for number in draft.facts.flow.order:
            for goal, args in hands(draft.facts.blocks[number][2]):
                self.handed[goal].append(args)
        # The rows that give the words of params that are always handed these.
        self.rows = {}
        self.gone = {}

    def find(self):
        """Look at each param once: whether one was found."""
        found = False
        for number in self.facts.flow.order[1:]:
            for at, param in enumerate(self.facts.blocks[number][0]):
                if param not in self.gone and self._look_at(param, [args[at] for args in self.handed[number]]):
                    self.gone[param] = True
                    found = True
        return found

    def _look_at(self, param, values):
        """Whether a param is always handed one value."""
        named = [self.draft.name_of(value) for value in values]
        others = [value for value in named if value != param]
        if all([value == others[0] for value in others]):
            self.draft.rename_leaf(param, others[0])
            return True
        rows = [self._const(value) for value in others]
        if None in rows or not all([row[2] == rows[0][2] for row in rows]):
            return False
        self.rows[param] = ("const", param) + rows[0][2:]
        self.draft.told[param] = (rows[0][2], ())
        return True

    def _const(self, value):
        """The row that gives a word, None for other values."""
        if value in self.rows:
            return self.rows[value]
        row = self.facts.row_of(value)
        return row if row is not None and row[0] == "const" else None

    def take_away(self):
        """Take what was found away."""
        draft = self.draft
        for number in self.facts.flow.order:
            params_here = self.facts.blocks[number][0]
            draft.params[number] = [param for param in params_here if param not in self.gone]
            draft.rows[number] = [self.rows[param] for param in params_here if param in self.rows] + draft.rows[number]
            goals = []
            for goal, args in hands(draft.ends[number]):
                there = self.facts.blocks[goal][0]
                goals.append((goal, tuple([arg for arg, param in zip(args, there) if param not in self.gone])))
            draft.ends[number] = turned(draft.ends[number], goals)

"""Ways through the blocks of a function: what can be come to, and what every way there passes.

Blocks are numbers, block 0 is the entry. Lists go by blocks, and have no meaning for those that can't be come to.
"""


class Flow:
    """The ways through blocks, of which it is told to which ones each can go."""

    def __init__(self, nexts):
        self.nexts = nexts
        first, self.order, parents = _search(nexts)
        # The place of each block in the order, -1 if it can't be come to.
        self.number = [-1] * len(nexts)
        for at, block in enumerate(self.order):
            self.number[block] = at
        self.befores = [[] for _ in nexts]
        for block in self.order:
            for goal in nexts[block]:
                self.befores[goal].append(block)
        # The last block that every way to a block passes ahead of it; the entry's is itself.
        self.above = _blocks_above(first, parents, self.befores, len(nexts))
        self.enters = [0] * len(nexts)
        self.leaves = [-1] * len(nexts)
        self.tree = self._number_tree()

    def _number_tree(self):
        """The blocks in an order in which all that a block is above of stands right behind it."""
        below = [[] for _ in self.nexts]
        for block in reversed(self.order):
            if block != 0:
                below[self.above[block]].append(block)
        tree = []
        pile = [0]
        while pile:
            block = pile.pop()
            self.enters[block] = len(tree)
            tree.append(block)
            pile.extend(below[block])
        sizes = [1] * len(self.nexts)
        for block in reversed(tree):
            self.leaves[block] = self.enters[block] + sizes[block] - 1
            if block != 0:
                sizes[self.above[block]] += sizes[block]
        return tree

    def can_come_to(self, block):
        """Whether a block can be come to."""
        return block < len(self.number) and self.number[block] >= 0

    def passes(self, one, block):
        """Whether every way to a block that can be come to passes this one, or ends there."""
        return self.enters[one] <= self.enters[block] <= self.leaves[one]


def _search(nexts):
    """The blocks that can be come to, as they are found and in reverse as they are left, and whence each was found."""
    parents = {0: 0}
    first = [0]
    left = []
    pile = [(0, 0)]
    while pile:
        block, turn = pile.pop()
        if turn == len(nexts[block]):
            left.append(block)
        else:
            pile.append((block, turn + 1))
            goal = nexts[block][turn]
            if goal not in parents:
                parents[goal] = block
                first.append(goal)
                pile.append((goal, 0))
    left.reverse()
    return first, left, parents


def _blocks_above(first, parents, befores, many):
    """The block right above each one, found by semidominators: near linear, for functions of very many blocks."""
    number = {block: at for at, block in enumerate(first)}
    found = [number[parents[block]] for block in first]
    up = list(found)
    semis = list(range(len(first)))
    labels = list(range(len(first)))
    for at in range(len(first) - 1, 0, -1):
        least = found[at]
        for before in befores[first[at]]:
            least = min(least, semis[_least_label(number[before], at + 1, up, labels, semis)])
        semis[at] = least
    for at in range(1, len(first)):
        candidate = found[at]
        while candidate > semis[at]:
            candidate = found[candidate]
        found[at] = candidate
    above = [0] * many
    for at, block in enumerate(first):
        above[block] = first[found[at]]
    return above


def _least_label(at, linked, up, labels, semis):
    """Of what stands from here up to the root of its linked tree, the one with the least semi."""
    pile = []
    while up[at] >= linked:
        pile.append(at)
        at = up[at]
    while pile:
        below = pile.pop()
        up[below] = up[at]
        if semis[labels[at]] < semis[labels[below]]:
            labels[below] = labels[at]
        at = below
    return labels[at]


def inner_heads(flow):
    """For each block the head of the innermost loop in which it stands, None outside of loops."""
    heads = [None] * len(flow.nexts)
    for head, blocks in _loops_of(flow):
        for block in blocks:
            heads[block] = head
    return heads


def loop_depths(flow):
    """In how many loops each block stands."""
    depths = [0] * len(flow.nexts)
    for _, blocks in _loops_of(flow):
        for block in blocks:
            depths[block] += 1
    return depths


def _loops_of(flow):
    """The loops, outer ones first: pairs of a head, that every way into the loop passes, and the loop's blocks."""
    loops = []
    for head in flow.order:
        backs = [block for block in flow.befores[head] if flow.passes(head, block)]
        if backs:
            loops.append((head, _loop_of(flow, head, backs)))
    return loops


def _loop_of(flow, head, backs):
    """The blocks of a loop, from which a way leads back to its head without passing it."""
    found = {head: True}
    pile = list(backs)
    while pile:
        block = pile.pop()
        if block not in found:
            found[block] = True
            pile.extend(flow.befores[block])
    return list(found)

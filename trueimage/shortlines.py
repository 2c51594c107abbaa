"""Shorter lines, and whether lines do the same [53]."""

from trueimage.lineflow import BEHIND, RING, TURNED, LineFlow


def same_lines(old, new):
    """Whether new lines do what old ones do."""
    before, after = LineFlow(old), LineFlow(new)
    seen = {}
    pile = [(before.place(0), after.place(0))]
    while pile:
        pair = pile.pop()
        if pair not in seen:
            seen[pair] = True
            nexts = _pairs_behind(before, after, pair[0], pair[1])
            if nexts is None:
                return False
            pile.extend(nexts)
    return True


def _pairs_behind(before, after, one, other):
    """The pairs of places behind two ones that do the same; None if they don't."""
    if one < 0 or other < 0:
        return [] if one == other == RING else None
    old, new = before.lines[one], after.lines[other]
    if old[0] != new[0]:
        return None
    turned = False
    if old[0] == "word":
        if list(old[1:]) != list(new[1:]) or (after.goes_past(other) and after.word_past(other) is None):
            return None
    else:
        turned = new[1] != old[1]
        if tuple(old[2:4]) != tuple(new[2:4]) or (turned and TURNED.get(old[1], "") != new[1]):
            return None
    behind = after.nexts(other)
    if turned:
        behind.reverse()
    return list(zip(before.nexts(one), behind))


def shortened(lines):
    """Lines that do the same, never more of them."""
    layout = Layout(lines)
    layout.lay_out()
    if layout.fails or len(layout.lines) > len(lines) or not same_lines(lines, layout.lines):
        return list(lines)
    return layout.lines


class Layout:
    """Lays lines out anew, each behind one that goes on to it, as far as that can be."""

    def __init__(self, lines):
        self.flow = LineFlow(lines)
        self.names = self._names_of(lines)
        self.order = []
        self.done = {}
        self.wanted = {}
        self.waiting = []
        self.lines = []
        self.fails = False

    def _names_of(self, lines):
        """For each place that a label stands for the first such label."""
        names = {}
        for at, line in enumerate(lines):
            if line[0] == "label":
                names.setdefault(self.flow.place(at), line[1])
        return names

    def lay_out(self):
        """Make the lines."""
        self.waiting.append(self.flow.place(0))
        while self.waiting and not self.fails:
            at = self.waiting.pop()
            if at not in self.done:
                self._follow(at)
        for at, line in self.order:
            if at in self.wanted:
                self.lines.append(("label", self.names[at]))
            self.lines.append(line)

    def _follow(self, at):
        """Lay out what begins at a place, one behind another."""
        while at is not None and not self.fails:
            if at in self.done:
                self._add(None, ("jump", self._name(at), None))
                return
            self.done[at] = True
            if at == RING:
                self._add(at, ("jump", self._name(at), None))
                return
            if at == BEHIND:
                self.fails = True
                return
            line = self.flow.lines[at]
            at = self._branch(at, line) if line[0] == "branch" else self._word(at, line)

    def _add(self, at, line):
        self.order.append((at, line))

    def _name(self, at):
        """The label for a place, which is wanted."""
        if at not in self.names:
            self.fails = True
            return 0
        self.wanted[at] = True
        return self.names[at]

    def _word(self, at, line):
        """Lay out a word; one that goes past the next word has that behind it."""
        self._add(at, line)
        nexts = self.flow.nexts(at)
        if not self.flow.goes_past(at):
            return nexts[0] if nexts else None
        past = nexts[1]
        if past in self.done or past != self.flow.word_past(at):
            self.fails = True
            return None
        self.done[past] = True
        return self._past(past, nexts[0])

    def _past(self, past, behind):
        """Lay out a word that is gone past, to what stands behind it."""
        if self.flow.goes_past(past):
            self.fails = True
        self._add(past, self.flow.lines[past])
        return behind

    def _branch(self, at, line):
        """Lay out a branch; what comes first of the two places that it goes on to stands behind it."""
        taken, behind = self.flow.nexts(at)
        turns = taken not in self.done and (behind in self.done or at < taken < behind)
        if turns:
            self._add(at, ("branch", TURNED[line[1]]) + tuple(line[2:4]) + (self._name(behind),) + tuple(line[5:]))
            self.waiting.append(behind)
            return taken
        self._add(at, ("branch",) + tuple(line[1:4]) + (self._name(taken),) + tuple(line[5:]))
        self.waiting.append(taken)
        return behind

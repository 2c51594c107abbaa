"""Shorter lines, and whether lines do the same [53]."""

from trueimage.lineflow import BEHIND, RING, TURNED, LineFlow


def same_lines(old, new):
    """Whether new lines do what old ones do."""
    before, after = LineFlow(old), LineFlow(new)
    seen = {}
    pile = [(before.place_from(0), after.place_from(0))]
    while pile:
        pair = pile.pop()
        if pair not in seen:
            seen[pair] = True
            nexts = _pairs_behind(before, after, pair[0], pair[1])
            if nexts is None:
                return False
            pile.extend(nexts)
    return True


def _pairs_behind(before, after, one, other):
    """The pairs of places behind two ones that do the same; None if they don't."""
    if one < 0 or other < 0:
        return [] if one == other == RING else None
    old, new = before.lines[one], after.lines[other]
    if old[0] != new[0]:
        return None
    turned = False
    if old[0] == "word":
        if list(old[1:]) != list(new[1:]) or (after.goes_past(other) and after.word_past(other) is None):
            return None
    else:
        turned = new[1] != old[1]
        if tuple(old[2:4]) != tuple(new[2:4]) or (turned and TURNED.get(old[1], "") != new[1]):
            return None
    behind = after.nexts_of(other)
    if turned:
        behind.reverse()
    return list(zip(before.nexts_of(one), behind))


def shortened(lines):
    """Lines that do the same, never more of them."""
    short = Shortening(lines).short_lines()
    if short is None or len(short) > len(lines) or not same_lines(lines, short):
        return list(lines)
    return short


class Shortening:
    """Makes lines anew, in their order, of the words and branches that can be come to."""

    def __init__(self, lines):
        self.flow = LineFlow(lines)
        # For each place that labels stand for the least of them, so that blocks keep theirs.
        self.names = {}
        for at, line in enumerate(lines):
            if line[0] == "label":
                place = self.flow.place_from(at)
                self.names[place] = min(self.names.get(place, line[1]), line[1])
        # For each place that can be come to, what comes behind it where nothing is gone on to otherwise.
        self.falls = self._find_falls()

    def _find_falls(self):
        falls = {}
        pile = [self.flow.place_from(0)]
        while pile:
            at = pile.pop()
            if at not in falls:
                nexts = self.flow.nexts_of(at) if at >= 0 else []
                falls[at] = nexts[-1] if nexts else None
                pile.extend(nexts)
        for at in list(falls):
            if at >= 0 and self.flow.goes_past(at):
                # Who goes past a word comes to what stands behind that, though the word itself may end there.
                falls[falls[at]] = self.flow.nexts_of(at)[0]
        return falls

    def short_lines(self):
        """The lines, None if the old ones go on behind their last one."""
        if BEHIND in self.falls:
            return None
        order = sorted([at for at in self.falls if at >= 0])
        made = []
        if self.flow.place_from(0) not in order[:1]:
            made.append((None, self._jump(self.flow.place_from(0))))
        for at, behind in zip(order, order[1:] + [None]):
            line, goal = self._line(at, behind)
            made.append((at, line))
            if goal is not None and goal != behind:
                made.append((None, self._jump(goal)))
        if RING in self.falls:
            made.append((RING, self._jump(RING)))
        short = []
        for at, line in made:
            if at in self.names:
                short.append(("label", self.names[at]))
            short.append(line)
        return short

    def _jump(self, goal):
        return ("jump", self.names[goal], None)

    def _line(self, at, behind):
        """A word or a branch, the next one being known, and what must come behind it, or None."""
        line = self.flow.lines[at]
        if line[0] == "word":
            return line, self.falls[at]
        taken, goal = self.flow.nexts_of(at)
        name = line[1]
        if taken == behind and goal != behind:
            name, taken, goal = TURNED[name], goal, taken
        return ("branch", name) + tuple(line[2:4]) + (self.names[taken],) + tuple(line[5:]), goal

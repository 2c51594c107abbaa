"""Where lines go on to [48], [53]: labels and jumps count for nothing."""

# Places in lines are numbers from 0 on; these stand for what is no place.
RING = -1
BEHIND = -2
TURNED = {"beq": "bne", "bne": "beq", "blt": "bge", "bge": "blt", "bltu": "bgeu", "bgeu": "bltu"}


class LineFlow:
    """The words and branches of lines, and where they go on to."""

    def __init__(self, lines):
        self.lines = lines
        self.labels = {}
        for at, line in enumerate(lines):
            if line[0] == "label":
                self.labels.setdefault(line[1], at)
        self.found = {}

    def place_from(self, at):
        """The place of the first word or branch from here on, RING for a ring of jumps, BEHIND behind the last line."""
        gone = {}
        while 0 <= at < len(self.lines) and at not in self.found and at not in gone:
            line = self.lines[at]
            if line[0] in ("word", "branch"):
                self.found[at] = at
            else:
                gone[at] = True
                at = at + 1 if line[0] == "label" else self.labels.get(line[1], BEHIND)
        if at in gone:
            place = RING
        else:
            place = self.found[at] if at in self.found else BEHIND
        for step in gone:
            self.found[step] = place
        return place

    def at_label(self, label):
        """The place of the first word or branch from a label on."""
        return self.place_from(self.labels[label]) if label in self.labels else BEHIND

    def goes_past(self, at):
        """Whether a word is a branch, that goes past the next word."""
        return self.lines[at][0] == "word" and self.lines[at][1][0] in TURNED

    def word_past(self, at):
        """The place of the word that a word goes past, None if what stands there is no word."""
        at += 1
        while at < len(self.lines) and self.lines[at][0] == "label":
            at += 1
        return at if at < len(self.lines) and self.lines[at][0] == "word" else None

    def nexts_of(self, at):
        """The places behind a word or a branch: the one that a branch takes ahead of the next one."""
        line = self.lines[at]
        if line[0] == "branch":
            return [self.at_label(line[4]), self.place_from(at + 1)]
        if leaves(line[1]):
            return []
        if not self.goes_past(at):
            return [self.place_from(at + 1)]
        past = self.word_past(at)
        return [BEHIND if past is None else self.place_from(past + 1), self.place_from(at + 1)]


def leaves(instruction):
    """Whether nothing is gone on to behind a word: it ends the run, goes back, or goes on elsewhere."""
    name, first = instruction[:2]
    return name == "ebreak" or (name in ("jal", "jalr") and first == 0)

"""Assembling: lines to words [54]."""

from trueimage.forms import encode
from trueimage.lineflow import TURNED

# How many words a branch reaches back and on.
LEAST_REACH = -1024
MOST_REACH = 1023
BYTES = 4


class Assembled:
    """The words of lines, and what is to be known of them."""

    def __init__(self):
        self.words = []
        self.places = []
        self.patches = []
        self.traps = []
        self.labels = {}

    def __eq__(self, other):
        if not isinstance(other, Assembled) or self.words != other.words or self.places != other.places:
            return False
        return self.patches == other.patches and self.traps == other.traps and self.labels == other.labels

    def word(self, instruction, place):
        """A word comes."""
        self.words.append(encode(instruction))
        self.places.append(place)


def long_branches(lines):
    """The places of the branches that need two words, as keys to True, as few as can be."""
    sizes = _sizes_of(lines)
    branches = [at for at, line in enumerate(lines) if line[0] == "branch"]
    found = {}
    changed = True
    while changed:
        changed = False
        starts, labels = _starts_of(lines, sizes)
        for at in branches:
            distance = labels[lines[at][4]] - starts[at]
            if at not in found and not LEAST_REACH <= distance <= MOST_REACH:
                found[at] = True
                sizes[at] = 2
                changed = True
    return {at: True for at in branches if at in found}


def _sizes_of(lines):
    """How many words each line has, all branches being short."""
    sizes = []
    # The labels that stand right behind a line.
    behind = {}
    for line in reversed(lines):
        if line[0] == "label":
            behind[line[1]] = True
            sizes.append(0)
        else:
            sizes.append(0 if line[0] == "jump" and line[1] in behind else 1)
            behind = {}
    sizes.reverse()
    return sizes


def _starts_of(lines, sizes):
    """The word at which each line begins, and each label stands."""
    starts = []
    labels = {}
    start = 0
    for line, size in zip(lines, sizes):
        starts.append(start)
        if line[0] == "label":
            labels[line[1]] = start
        start += size
    return starts, labels


def assembled(lines):
    """The words of lines."""
    sizes = _sizes_of(lines)
    for at in long_branches(lines):
        sizes[at] = 2
    starts, labels = _starts_of(lines, sizes)
    made = Assembled()
    made.labels = labels
    for line, start, size in zip(lines, starts, sizes):
        if line[0] == "word":
            _add_word(made, line)
        elif line[0] == "branch":
            _add_branch(made, line, labels[line[4]] - start, size)
        elif line[0] == "jump" and size > 0:
            made.word(("jal", 0, BYTES * (labels[line[1]] - start), 0), line[2])
    return made


def _add_word(made, line):
    _, instruction, place, patch, trap = line
    at = len(made.words)
    if patch is not None:
        made.patches.append((at,) + tuple(patch))
    if trap is not None:
        made.traps.append((at, trap))
    made.word(tuple(instruction), place)


def _add_branch(made, line, distance, size):
    """A branch that goes so many words on; a long one is the turned one, past a jump."""
    _, name, one, other, _, place = line
    if size == 1:
        made.word((name, one, other, BYTES * distance), place)
    else:
        made.word((TURNED[name], one, other, 2 * BYTES), place)
        made.word(("jal", 0, BYTES * (distance - 1), 0), place)

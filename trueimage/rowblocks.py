"""The blocks of the rows of a checked function: where rows jump to, which cells are read later, and loops."""

from trueimage.living import living_into

ENDING = ("jump", "if", "case", "return", "leave")


class RowBlock:
    """A block of rows: its first row, the one behind its last row, and the numbers of the blocks ahead and behind."""

    def __init__(self, start, stop):
        self.start = start
        self.stop = stop
        self.nexts = []
        self.befores = []
        # The cells that are read later, from the beginning on.
        self.lives = []
        # If a loop begins here: the cells that it writes.
        self.written = None
        # Whether the block stands between a loop's beginning and its end.
        self.in_loop = False


def row_blocks(rows):
    """The blocks that can be come to, in their order."""
    goals = _blocks_come_to(rows)
    starts = sorted(goals)
    numbers = {start: number for number, start in enumerate(starts)}
    blocks = [RowBlock(start, goals[start][0]) for start in starts]
    for number, block in enumerate(blocks):
        block.nexts = [numbers[goal] for goal in goals[block.start][1]]
        for goal in block.nexts:
            blocks[goal].befores.append(number)
    reads = []
    writes = []
    for block in blocks:
        read, written = _cells_of(rows, block)
        reads.append(read)
        writes.append(written)
    table = living_into([block.befores for block in blocks], writes, reads)
    for block, lives in zip(blocks, table):
        block.lives = lives
    _find_loops(blocks, writes)
    return blocks


def _next_rows(rows, at):
    """Where rows can go on behind a row, first where the next one stands if it may be that."""
    row = rows[at]
    if row[0] in ("return", "leave"):
        return []
    if row[0] == "jump":
        return [at + 1 + row[2]]
    if row[0] in ("if", "case"):
        return [at + 1, at + 1 + row[2]]
    return [at + 1]


def _blocks_come_to(rows):
    """For the place where each block begins, where it ends and where the blocks behind it begin."""
    bounds = {}
    for at, row in enumerate(rows):
        if row[0] in ENDING:
            for goal in _next_rows(rows, at):
                bounds[goal] = True
    found = {}
    pile = [0]
    while pile:
        start = pile.pop()
        if start not in found:
            at = start
            while rows[at][0] not in ENDING and at + 1 not in bounds:
                at += 1
            goals = _next_rows(rows, at)
            found[start] = (at + 1, goals)
            pile.extend(goals)
    return found


def _cells_of(rows, block):
    """The cells that a block reads ahead of writing them, and those that it writes, as keys."""
    reads = {}
    writes = {}
    for at in range(block.start, block.stop):
        row = rows[at]
        if row[0] == "write":
            writes[row[2]] = True
        elif row[0] in ("read", "within"):
            cell = row[2] if row[0] == "read" else row[4]
            if cell not in writes:
                reads[cell] = True
    return reads, writes


def _find_loops(blocks, writes):
    """Find the loops: who goes back to a block goes round in one."""
    lasts = {}
    for number, block in enumerate(blocks):
        for goal in block.nexts:
            if goal <= number:
                lasts[goal] = number
    for head, last in lasts.items():
        written = {}
        for number in range(head, last + 1):
            blocks[number].in_loop = True
            written.update(writes[number])
        blocks[head].written = written

"""The pass "loops": pure rows out of loops [25]."""

from trueimage.flow import inner_heads, loop_depths
from trueimage.middlerows import greatest_value, uses

# Only so many rows go ahead of one loop: what is kept over a loop needs a register there.
MOST_OF_LOOP = 8


def loops(draft):
    """Take pure rows out of the loops of a draft whose parts are given ahead of the loop."""
    hoisting = Hoisting(draft)
    for number in draft.facts.flow.tree:
        hoisting.look_at_block(number)
    for number, rows in hoisting.moved.items():
        draft.rows[number].extend(rows)


class Hoisting:
    """Finds rows that go out of loops, block by block: each one behind the block right above it."""

    def __init__(self, draft):
        self.draft = draft
        self.facts = draft.facts
        self.flow = draft.facts.flow
        self.heads = inner_heads(self.flow)
        self.depths = loop_depths(self.flow)
        # Rows that come at the end of blocks, and where the values stand that were moved.
        self.moved = {}
        self.homes = {}
        self.counts = {}
        self.next_value = greatest_value(draft.function) + 1

    def look_at_block(self, number):
        """Look at each row of a block."""
        rows = []
        for row in self.facts.blocks[number][1]:
            goal = self._goal(row, number) if row[0] in ("op", "index") else number
            if goal == number:
                rows.append(row)
            else:
                self._move(row, goal)
        self.draft.rows[number] = rows

    def _goal(self, row, number):
        """The block to which a row goes, its own one if it stays."""
        goal = number
        head = self.heads[number]
        while head is not None and head != 0:
            ahead = self.flow.above[head]
            if self.depths[ahead] >= self.depths[head] or self.counts.get(ahead, 0) >= MOST_OF_LOOP:
                return goal
            for value in uses(row):
                if not self._is_word(value) and not self.flow.passes(self._home(value), ahead):
                    return goal
            goal = ahead
            head = self.heads[ahead]
        return goal

    def _home(self, value):
        return self.homes[value] if value in self.homes else self.facts.given[value][0]

    def _is_word(self, value):
        row = self.facts.row_of(value)
        return row is not None and row[0] == "const"

    def _move(self, row, goal):
        """A row goes to the end of a block; words that it wants are made there, too."""
        rows = self.moved.setdefault(goal, [])
        parts = list(row)
        for at in (3, 4) if row[0] == "op" else (2, 3):
            if self._is_word(row[at]) and not self.flow.passes(self.facts.given[row[at]][0], goal):
                const = self.facts.row_of(row[at])
                rows.append(("const", self.next_value) + const[2:])
                parts[at] = self.next_value
                self.next_value += 1
        rows.append(tuple(parts))
        self.homes[row[1]] = goal
        self.counts[goal] = self.counts.get(goal, 0) + 1

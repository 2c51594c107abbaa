"""Making the blocks of middle code, one behind another, with the values that stand for cells and on the pile.

On the pile stand ("word", value) and ("address", value, ahead): so many words behind an address.
"""

WORD = "word"
ADDRESS = "address"


class Edge:
    """A way from the end of a block to another one, with what the cells and the pile have there."""

    def __init__(self, cells, pile):
        self.cells = cells
        self.pile = pile
        self.goal = None
        self.handed = []


class MiddleMaker:
    """Makes the blocks of a function."""

    def __init__(self, place):
        # Of the statement whose rows come, for rows that have none of their own.
        self.place = place
        self.blocks = []
        self.params = []
        self.rows = []
        self.cells = {}
        self.pile = []
        self.values_made = 0

    def new_value(self):
        """A value that nothing has given yet."""
        self.values_made += 1
        return self.values_made - 1

    def emit(self, row):
        """A row comes, without its place, that gives nothing."""
        self.rows.append(row + (self.place,))

    def give(self, *parts):
        """A row comes, without its value and its place; the answer is the value that it gives."""
        value = self.new_value()
        self.rows.append(parts[:1] + (value,) + parts[1:] + (self.place,))
        return value

    def begin(self, edges, params, cells, pile):
        """A block begins, to which these edges go."""
        for edge in edges:
            edge.goal = len(self.blocks)
        self.params = params
        self.rows = []
        self.cells = cells
        self.pile = pile

    def end(self, parts, edges):
        """The block ends: the parts of its end stand ahead of its edges, whose args may still come."""
        self.blocks.append((tuple(self.params), tuple(self.rows), parts, edges))

    def edge(self):
        """An edge from here."""
        return Edge(self.cells, list(self.pile))

    def push_word(self, value):
        """A word comes onto the pile."""
        self.pile.append((WORD, value))

    def pop_word(self):
        """The word goes from the pile."""
        return self.pile.pop()[1]

    def push_address(self, value, ahead):
        """So many words behind an address comes onto the pile."""
        self.pile.append((ADDRESS, value, ahead))

    def pop_value(self):
        """What is on the pile goes from it, an address with all words behind it worked out."""
        entry = self.pile.pop()
        if entry[0] == ADDRESS and entry[2] > 0:
            return self.give("index", entry[1], self.give("const", 1), entry[2])
        return entry[1]

    def made_blocks(self):
        """The blocks of the function."""
        made = []
        for params, rows, parts, edges in self.blocks:
            end = parts
            for edge in edges:
                end = end + (edge.goal, tuple(edge.handed))
            made.append((params, rows, end))
        return tuple(made)

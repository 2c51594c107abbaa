"""The rows of a function's body, while it is checked.

A ROW of a checked function is a tuple (name, steps, ..): what a machine with a pile of words and addresses does,
and how many steps of the meaning that is. CELLS hold the params, a slice in two of them, and the local words;
SLOTS hold the arrays and structures of a call. A distance counts rows from the next one on.

("begin", steps, place)                  a function, a statement, or a round of a loop, begins
("number", steps, word)                  the word comes onto the pile
("read", steps, cell)                    what the cell has comes onto the pile
("write", steps, cell)                   the last one of the pile goes into the cell
("global", steps, module, name)          the address of a global comes onto the pile
("slot", steps, number)                  the address of a slot comes onto the pile
("clear", steps, number)                 all words of a slot are 0
("field", steps, words)                  the address on the pile goes on by so many words
("index", steps, place, words, length)   an address and an index give the address of a thing of so many words
("within", steps, place, words, cell)    likewise, with the length in a cell
("load", steps)                          the address on the pile gives its word
("store", steps)                         an address and a word: the word is put there
("swap", steps)                          the last two of the pile change places
("work", steps, kind)                    two words give what a kind of work makes of them
("divide", steps, kind, place)           likewise, with a trap if the second one is 0
("jump", steps, distance)
("if", steps, distance)                  a word; it jumps if that is 0
("case", steps, distance, word)          it jumps if the last one of the pile isn't this word, else that goes away
("drop", steps)                          the last one of the pile goes away
("call", steps, place, module, name)     the args give what the function answers, nothing if it is void
("return", steps)                        a word is the function's answer
("leave", steps)                         a void function returns
("out", steps), ("in", steps, place), ("more", steps, place), ("assert", steps, place)
"""


class Body:
    """A function's body while it is checked: its names, and the rows that do what it means."""

    def __init__(self, view, answer):
        self.view = view
        self.answer = answer
        # Locals in sight: ("word", kind, cell), ("slice", kind, cell) or ("object", kind, slot).
        self.names = {}
        self.told = []
        self.rows = []
        self.cells = 0
        self.slots = []
        # For each loop around: where a break and where a continue stands, whose distances are not known yet.
        self.loops = []

    def full_place(self, place):
        """A place with its module."""
        return (self.view.module, place[0], place[1])

    def tell(self, name, local, place):
        """A local comes in sight."""
        if name in self.names:
            self.view.fault(place, "told twice")
        self.names[name] = local
        self.told.append(name)

    def forget(self, many):
        """Only the first so many locals stay in sight."""
        while len(self.told) > many:
            del self.names[self.told.pop()]

    def new_cells(self, many):
        """The first one of so many new cells."""
        self.cells += many
        return self.cells - many

    def new_slot(self, words):
        """A new slot of so many words."""
        self.slots.append(words)
        return len(self.slots) - 1

    def emit(self, row):
        """A row comes; the answer is where it stands."""
        self.rows.append(row)
        return len(self.rows) - 1

    def emit_all(self, rows):
        """Rows come."""
        self.rows.extend(rows)

    def here(self):
        """Where the next row will stand."""
        return len(self.rows)

    def jump_back(self, goal):
        """A jump comes that goes to where a row stands."""
        self.emit(("jump", 0, goal - self.here() - 1))

    def land(self, at):
        """The jump that stands there goes to where the next row will stand."""
        row = self.rows[at]
        self.rows[at] = row[:2] + (self.here() - at - 1,) + row[3:]

    def land_all(self, places):
        """All jumps that stand there go to where the next row will stand."""
        for at in places:
            self.land(at)

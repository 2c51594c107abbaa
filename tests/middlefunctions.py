"""Random well-formed units of middle code, for tests: nothing here uses the package."""

import random

WORKS = (
    "add", "sub", "mul", "and", "or", "xor", "shl", "shr", "sar", "lts", "ltu", "eq", "divs", "rems", "divu", "remu",
)
WORDS = (0, 0, 1, 1, 2, 3, 4, 5, 31, 2047, 2048, 2 ** 31, 2 ** 32 - 1, 2 ** 32 - 2, 2 ** 32 - 2048, 123456789)
# A global, its words, and its first words.
GLOBALS = (("g", "int", 1, (7,)), ("h", "int[4]", 4, (1, 2)), ("k", "int[9]", 9, ()))
# What random functions may call: a leaf of two words, one with an address, one that calls itself.
AT = ("n", 1, 1)
CALLEES = (
    ("sum", "int(int,int)", (), (((0, 1), (("op", 2, "add", 0, 1, AT),), ("return", 2)),)),
    ("put", "int(int[],int)", (), (
        ((0, 1, 2), (("const", 3, 0, AT), ("op", 4, "ltu", 3, 1, AT), ("check", 4, "bounds", AT),
                     ("store", 0, 0, 2, AT), ("load", 5, 0, 0, AT)), ("return", 5)),)),
    ("down", "int(int)", (2,), (
        ((0,), (("out", 0, AT), ("const", 1, 3, AT), ("op", 2, "and", 0, 1, AT)), ("if", 2, 1, (), 2, ())),
        ((), (("const", 3, 1, AT), ("op", 4, "sub", 2, 3, AT), ("call", 5, "down", (4,), 1, AT)), ("return", 5)),
        ((), (("address", 6, 0, AT), ("load", 7, 6, 1, AT)), ("return", 7)))),
)


class FunctionMaker:
    """Makes a function: values are words or addresses, an address with how many words stand from there on."""

    def __init__(self, numbers, most_blocks, most_rows, tame):
        self.random = numbers
        self.tame = tame
        self.values = 0
        self.slots = tuple(numbers.choice((1, 2, 4)) for _ in range(numbers.randrange(3)))
        self.many = numbers.randrange(1, most_blocks + 1)
        self.most_rows = most_rows
        self.sorts = {}
        self.room = {}
        self.place = 0

    def new(self, sort, room=0):
        # Values stand in no order of their numbers.
        value = self.values
        self.values += 1
        self.sorts[value] = sort
        self.room[value] = room
        return value

    def at(self):
        self.place += 1
        return ("m", self.random.randrange(1, 9), self.random.choice((self.place, 1, 2)))

    def function(self, name, kind):
        numbers = self.random
        goals = self.goals()
        above = dominators(goals)
        begun = {}
        params = {0: self.entry_params(kind)}
        for block in range(1, self.many):
            sorts = [numbers.choice(("word", "word", "word", "address")) for _ in range(numbers.choice((0, 0, 1, 2, 3)))]
            params[block] = [self.new(sort, 1) for sort in sorts]
        bodies = {}
        for block in order_of(goals, above):
            there = list(params[block])
            if block != 0:
                there += begun[max(above[block] - {block}, key=lambda other: len(above[other]))]
            rows, there = self.rows(there)
            begun[block] = there
            bodies[block] = (rows, there)
        blocks = []
        for block in range(self.many):
            rows, there = bodies[block] if block in bodies else ([], list(params[block]))
            end = self.end(goals[block], there, params, rows)
            blocks.append((tuple(params[block]), tuple(rows), end))
        return (name, kind, self.slots, tuple(blocks))

    def entry_params(self, kind):
        found = []
        inner = kind[kind.index("(") + 1:-1]
        for part in inner.split(",") if inner else []:
            if part.endswith("[]"):
                found.append(self.new("address", 1))
            found.append(self.new("word"))
        return found

    def goals(self):
        goals = []
        for block in range(self.many):
            forms = [0, 1, 1, 2, 2, 2] if self.many > 1 else [0]
            goals.append([self.random.randrange(1, self.many) for _ in range(self.random.choice(forms))])
            if goals[-1] and block + 1 < self.many and self.random.random() < 0.7:
                goals[-1][0] = block + 1
        return goals

    def words(self, there):
        return [value for value in there if self.sorts[value] == "word"]

    def word(self, there, rows):
        words = self.words(there)
        if not words or self.random.random() < 0.2:
            value = self.new("word")
            rows.append(("const", value, self.random.choice(WORDS), self.at()))
            there.append(value)
            return value
        return self.random.choice(words[-6:] + words[:2])

    def address(self, there, rows):
        found = [value for value in there if self.sorts[value] == "address"]
        if not found or self.random.random() < 0.5:
            what, room = self.random.choice(
                [(name, words) for name, _, words, _ in GLOBALS] + list(enumerate(self.slots)))
            value = self.new("address", room)
            rows.append(("address", value, what, self.at()))
            there.append(value)
            return value
        return self.random.choice(found)

    def rows(self, there):
        rows = []
        there = list(there)
        for _ in range(self.random.randrange(self.most_rows + 1)):
            self.row(there, rows)
        return rows, there

    def row(self, there, rows):
        form = self.random.choice(
            ["op"] * 6 + ["const"] * 2 + ["load", "load", "store", "index", "check", "out", "out", "in", "more", "call", "enter"])
        at = self.at()
        if form == "const":
            row = ("const", self.new("word"), self.random.choice(WORDS), at)
        elif form == "op":
            row = ("op", self.random.choice(WORKS), self.word(there, rows), self.word(there, rows), at)
            row = (row[0], self.new("word")) + row[1:]
        elif form in ("load", "store"):
            address = self.address(there, rows)
            offset = self.random.randrange(self.room[address]) if self.tame or self.random.random() < 0.95 else 3
            if form == "load":
                row = ("load", self.new("word"), address, offset, at)
            else:
                row = ("store", address, offset, self.word(there, rows), at)
        elif form == "index":
            row = self.index(there, rows, at)
        elif form == "check":
            row = ("check", self.word(there, rows), self.random.choice(("bounds", "zero", "told")), at)
        elif form == "out":
            row = ("out", self.word(there, rows), at)
        elif form in ("in", "more"):
            row = (form, self.new("word"), at)
        elif form == "call":
            row = self.call(there, rows, at)
        else:
            row = ("enter", self.random.randrange(1, 3), at)
        rows.append(row)
        if row[0] in ("const", "op", "load", "index", "in", "more", "call"):
            there.append(row[1])

    def index(self, there, rows, at):
        address = self.address(there, rows)
        room = self.room[address]
        scale = self.random.choice((1, 1, 2, 3))
        most = (room - 1) // scale
        # Of how many words the index is looked at by a mask, so that it stays within the object.
        mask = max(word for word in (0, 1, 3, 7) if word <= most)
        masked = self.new("word")
        wanted = self.word(there, rows)
        known = self.new("word")
        rows.append(("const", known, mask, at))
        rows.append(("op", masked, "and", wanted, known, at))
        if self.random.random() < 0.3 and most > 0:
            masked = self.new("word")
            index = self.random.randrange(most + 1)
            rows.append(("const", masked, index, at))
            room = room - index * scale
        else:
            room = room - mask * scale
        return ("index", self.new("address", room), address, masked, scale, at)

    def call(self, there, rows, at):
        name, kind, _, blocks = self.random.choice(CALLEES)
        if name == "put":
            address = self.address(there, rows)
            args = (address, self.word(there, rows), self.word(there, rows))
        else:
            args = tuple(self.word(there, rows) for _ in blocks[0][0])
        return ("call", self.new("word"), name, args, self.random.randrange(1, 3), at)

    def end(self, goals, there, params, rows):
        args = []
        for goal in goals:
            args.append(tuple(
                self.word(there, rows) if self.sorts[param] == "word" else self.address(there, rows) for param in params[goal]))
        if len(goals) == 1:
            return ("go", goals[0], args[0])
        if len(goals) == 2:
            return ("if", self.word(there, rows), goals[0], args[0], goals[1], args[1])
        form = self.random.randrange(8)
        if form == 0:
            return ("trap", self.random.choice(("bounds", "zero", "told")), self.at())
        if form == 1 and not self.slots:
            return ("tail", "sum", (self.word(there, rows), self.word(there, rows)), 1, self.at())
        return ("return", self.word(there, rows))


def dominators(goals):
    """For each block that can be come to the set of those that every way there passes."""
    everything = set()
    pile = [0]
    while pile:
        block = pile.pop()
        if block not in everything:
            everything.add(block)
            pile.extend(goals[block])
    above = {block: set(everything) for block in everything}
    above[0] = {0}
    changed = True
    while changed:
        changed = False
        for block in everything - {0}:
            befores = [above[other] for other in everything if block in goals[other]]
            now = set.intersection(*befores) | {block}
            if now != above[block]:
                above[block] = now
                changed = True
    return above


def order_of(goals, above):
    return sorted(above, key=lambda block: len(above[block]))


def random_unit(seed, most_blocks=5, most_rows=6, tame=False):
    """A unit whose main is random."""
    maker = FunctionMaker(random.Random(seed), most_blocks, most_rows, tame)
    function = maker.function("main", "int()")
    return ("m", GLOBALS, CALLEES + (function,), ())


def random_function(seed, kind="int(int,int[])", most_blocks=5, most_rows=6, tame=False):
    """A random function of this kind."""
    return FunctionMaker(random.Random(seed), most_blocks, most_rows, tame).function("f", kind)

"""Which rows of instructions do what a row of middle code does [41].

A value of middle code keeps its number. Only those pure rows are made whose value is wanted in a register: words can
stand in instructions, tests in branches, and parts of addresses in loads and stores.
"""

from trueimage.lowcode import NOUGHT
from trueimage.middlerows import hands
from trueimage.slotroots import SlotRoots
from trueimage.words import signed, word_of
from trueimage.workrows import LEAST, MOST, work_rows

BYTES = 4
# No global has more bytes.
MOST_OBJECT_BYTES = 16384
# For each test the branch that is taken if it holds, and the one that is taken if it doesn't.
BRANCHES = {"lts": ("blt", "bge"), "ltu": ("bltu", "bgeu"), "eq": ("beq", "bne")}


class Chooser:
    """Chooses rows for a function."""

    def __init__(self, facts, slots, first):
        self.facts = facts
        self.slots = slots
        self.slot_roots = SlotRoots(facts)
        self.depth = first
        self.next_value = first + 1
        # For each pure value that is wanted in a register, the rows that make it.
        self.made = {}
        self.wanted = []
        # How often each value is handed to blocks.
        self.handed = {}
        for number in facts.flow.order:
            for _, args in hands(facts.blocks[number][2]):
                for arg in args:
                    self.handed[arg] = self.handed.get(arg, 0) + 1

    def new_value(self):
        """A value that stands between the rows for one row."""
        self.next_value += 1
        return self.next_value - 1

    def word(self, value):
        """The word that a value always is, None if that isn't known."""
        row = self.facts.row_of(value)
        return row[2] if row is not None and row[0] == "const" else None

    def operand(self, value):
        """A value as it stands in a chosen row that has it in a register."""
        if self.word(value) == 0:
            return NOUGHT
        self.wanted.append(value)
        return value

    def operands(self, values):
        """Values as they stand in a chosen row."""
        return tuple([self.operand(value) for value in values])

    def make_wanted(self):
        """Make the pure rows whose values are wanted."""
        while self.wanted:
            value = self.wanted.pop()
            row = self.facts.row_of(value)
            if row is not None and row[0] in PURES and value not in self.made:
                make = PURES[row[0]]
                self.made[value] = make(self, row)

    def effect(self, row):
        """The rows for one that isn't pure."""
        choose = EFFECTS[row[0]]
        return choose(self, row)

    def test(self, value):
        """The branch that is taken if a value isn't 0: its name and what it looks at."""
        positive = True
        while True:
            row = self.facts.row_of(value)
            if row is None or row[0] != "op" or row[2] not in BRANCHES:
                return "bne" if positive else "beq", self.operand(value), NOUGHT
            _, _, kind, one, other, _ = row
            if kind == "eq" and self.word(other) == 0:
                value = one
            elif kind == "eq" and self.word(one) == 0:
                value = other
            else:
                return BRANCHES[kind][0 if positive else 1], self.operand(one), self.operand(other)
            positive = not positive

    def spot(self, address, offset):
        """Where a word stands, so many words behind an address: its kind, what, and bytes."""
        if self._is_beside_slot(address, offset):
            # No run comes here: code may tell any address, but none of another word of the frame.
            return "at", NOUGHT, 0
        kind, what, bytes_behind = self._root(address)
        bytes_behind = signed(word_of(bytes_behind + BYTES * offset))
        if kind == "slot" or (kind == "name" and 0 <= bytes_behind < MOST_OBJECT_BYTES):
            return kind, what, bytes_behind
        if kind == "at" and LEAST <= bytes_behind <= MOST:
            return kind, self.operand(what), bytes_behind
        return "at", self.operand(address), BYTES * offset

    def _is_beside_slot(self, address, offset):
        """Whether so many words behind an address is always a place beside the slot in which the address was made."""
        root = self.slot_roots.root(address)
        if root is None:
            return False
        return word_of(root[1] + BYTES * offset) >= BYTES * self.slots[root[0]]

    def _root(self, address):
        """What an address stands behind, and by how many bytes."""
        behind = 0
        while True:
            row = self.facts.row_of(address)
            if row is not None and row[0] == "address":
                return "name" if isinstance(row[2], str) else "slot", row[2], behind
            if row is None or row[0] != "index" or self.word(row[3]) is None:
                return "at", address, behind
            behind += BYTES * row[4] * self.word(row[3])
            address = row[2]

    def handed_on(self, args):
        """What is handed to a block; a 0 that is handed more often is kept, as its params can stand where it stands."""
        found = []
        for arg in args:
            if self.handed[arg] > 1:
                self.wanted.append(arg)
                found.append(arg)
            else:
                found.append(self.operand(arg))
        return tuple(found)

    def end(self, end, places):
        """The rows ahead of an end, and the end; places tells where blocks stand."""
        goals = [(places[goal], self.handed_on(args)) for goal, args in hands(end)]
        if end[0] == "go":
            return [], ("go",) + goals[0]
        if end[0] == "if":
            return [], ("branch",) + self.test(end[1]) + goals[0] + goals[1]
        if end[0] == "return":
            return [], ("return", self.operand(end[1]))
        if end[0] == "tail":
            _, name, args, deeper, place = end
            depth = self.new_value()
            ahead = [("deep", depth, self.depth, deeper, place)]
            return ahead, ("tail", name, (depth,) + self.operands(args), place)
        return [], end


def _set(chooser, row):
    return [("set", row[1], row[2], row[3])]


def _work(chooser, row):
    return work_rows(chooser, row)


def _address(chooser, row):
    return [("name" if isinstance(row[2], str) else "slot", row[1], row[2], row[3])]


def _index(chooser, row):
    _, value, address, index, scale, place = row
    size = BYTES * scale
    behind = chooser.new_value()
    last = ("three", "add", value, chooser.operand(address), behind, place)
    if chooser.word(index) is not None:
        return [("set", behind, word_of(size * chooser.word(index)), place), last]
    if size & (size - 1) == 0:
        return [("imm", "slli", behind, chooser.operand(index), size.bit_length() - 1, place), last]
    many = chooser.new_value()
    product = ("three", "mul", behind, chooser.operand(index), many, place)
    return [("set", many, size, place), product, last]


def _load(chooser, row):
    _, value, address, offset, place = row
    return [("load", value) + chooser.spot(address, offset) + (place,)]


def _store(chooser, row):
    _, address, offset, value, place = row
    return [("store", chooser.operand(value)) + chooser.spot(address, offset) + (place,)]


def _check(chooser, row):
    return [("must",) + chooser.test(row[1]) + row[2:]]


def _call(chooser, row):
    _, value, name, args, deeper, place = row
    depth = chooser.new_value()
    return [
        ("deep", depth, chooser.depth, deeper, place),
        ("call", value, name, (depth,) + chooser.operands(args), place),
    ]


def _enter(chooser, row):
    return [("deep", chooser.new_value(), chooser.depth, row[1], row[2])]


def _out(chooser, row):
    return [("out", chooser.operand(row[1]), row[2])]


def _as_it_is(chooser, row):
    return [row]


PURES = {"const": _set, "op": _work, "address": _address, "index": _index}
EFFECTS = {
    "load": _load, "store": _store, "check": _check, "call": _call, "enter": _enter, "out": _out, "in": _as_it_is,
    "more": _as_it_is,
}

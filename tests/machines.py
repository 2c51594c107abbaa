"""A machine as [60] tells, that also looks at what is agreed upon [47], for tests alone.

Nothing here uses the package.
"""

from lowruns import BRANCHES, IMMS, THREES
from middleruns import TWO32, with_sign

KEPT = (8, 9, 18, 19, 20, 21, 22, 23, 24, 25, 26, 27)
NAMES_OF_THREES = {
    (0, 0): "add", (0, 32): "sub", (1, 0): "sll", (2, 0): "slt", (3, 0): "sltu", (4, 0): "xor", (5, 0): "srl", (5, 32): "sra",
    (6, 0): "or", (7, 0): "and", (0, 1): "mul", (1, 1): "mulh", (2, 1): "mulhsu", (3, 1): "mulhu", (4, 1): "div",
    (5, 1): "divu", (6, 1): "rem", (7, 1): "remu",
}
NAMES_OF_IMMS = {0: "addi", 2: "slti", 3: "sltiu", 4: "xori", 6: "ori", 7: "andi"}
NAMES_OF_BRANCHES = {0: "beq", 1: "bne", 4: "blt", 5: "bge", 6: "bltu", 7: "bgeu"}


def bits(word, high, low):
    return word >> low & (1 << high - low + 1) - 1


def signed_bits(number, many):
    return number - (1 << many) if number >> many - 1 else number


class Ended(Exception):
    pass


class TestMachine:
    """Runs an image; calls are looked at if the names of its functions are told."""

    def __init__(self, image, inputs, look=True):
        self.words, data, self.stack, self.limit, self.places, traps, names, _, self.base = image
        self.traps = dict(traps)
        self.inputs = list(inputs)
        self.outputs = []
        self.steps = 0
        self.pc = self.base
        self.x = [0] * 32
        start = -(-(self.base + 4 * len(self.words)) // 16) * 16
        self.memory = {start + 4 * at: word for at, word in enumerate(data)}
        self.stack_start = -(-(start + 4 * len(data)) // 16) * 16
        self.end = self.stack_start + self.stack
        for at in range(self.stack_start, self.end, 4):
            self.memory[at] = 0
        self.data = (start, start + 4 * len(data))
        self.look = look
        self.functions = {address for _, address in names if address < self.base + 4 * len(self.words)}
        # Open calls: where it goes back, sp, and the kept registers at the beginning.
        self.calls = []
        self.least = self.end

    def run(self, most):
        try:
            while True:
                self.step(most)
        except Ended as ended:
            return tuple(self.outputs), ended.args[0], self.steps

    def place(self):
        return self.places[(self.pc - self.base) // 4]

    def astray(self):
        raise Ended(("astray", self.pc))

    def step(self, most):
        if self.steps >= most:
            raise Ended(("on",))
        at = self.pc - self.base
        if at % 4 or not 0 <= at < 4 * len(self.words):
            self.astray()
        self.steps += 1
        self.next = self.pc + 4
        self.do(self.words[at // 4])
        self.x[0] = 0
        if self.look and at >= 24:
            self.look_at_stack()
        self.pc = self.next % TWO32

    def look_at_stack(self):
        assert self.x[2] % 16 == 0 and self.stack_start <= self.x[2] <= self.end, hex(self.x[2])
        self.least = min(self.least, self.x[2])

    def do(self, word):
        code, rd, part, one, other, last = (
            bits(word, 6, 0), bits(word, 11, 7), bits(word, 14, 12), bits(word, 19, 15), bits(word, 24, 20), bits(word, 31, 25))
        number = signed_bits(bits(word, 31, 20), 12)
        x = self.x
        if code == 51:
            x[rd] = THREES[NAMES_OF_THREES[(part, last)]](x[one], x[other])
        elif code == 19 and part in NAMES_OF_IMMS:
            x[rd] = THREES[IMMS[NAMES_OF_IMMS[part]]](x[one], number % TWO32)
        elif code == 19:
            assert last in (0, 32) and (part, last) != (1, 32)
            x[rd] = THREES[{1: "sll", 5: "sra" if last else "srl"}[part]](x[one], other)
        elif code == 3 and part == 2:
            x[rd] = self.load((x[one] + number) % TWO32)
        elif code == 35 and part == 2:
            self.store((x[one] + signed_bits(last << 5 | rd, 12)) % TWO32, x[other])
        elif code == 99:
            distance = bits(word, 31, 31) << 12 | bits(word, 7, 7) << 11 | bits(word, 30, 25) << 5 | bits(word, 11, 8) << 1
            if BRANCHES[NAMES_OF_BRANCHES[part]](x[one], x[other]):
                self.next = self.pc + signed_bits(distance, 13)
        elif code == 55:
            x[rd] = word & 0xfffff000
        elif code == 111:
            self.jump(word, rd)
        elif code == 103 and part == 0:
            self.back(rd, (x[one] + number) % TWO32 & ~1)
        elif word == 115:
            self.ecall()
        elif word == 0x100073:
            if self.pc not in self.traps:
                self.astray()
            raise Ended(("trap", self.traps[self.pc], self.place()))
        else:
            raise AssertionError(hex(word))

    def jump(self, word, rd):
        distance = bits(word, 31, 31) << 20 | bits(word, 19, 12) << 12 | bits(word, 20, 20) << 11 | bits(word, 30, 21) << 1
        self.next = self.pc + signed_bits(distance, 21)
        if rd == 1:
            self.x[1] = self.pc + 4
            self.calls.append((self.pc + 4, self.x[2], [self.x[number] for number in KEPT]))
            assert not self.look or self.next in self.functions
        elif self.look and self.next in self.functions and not self.inside(self.next):
            self.look_at_end()

    def inside(self, goal):
        """Whether a jump stays within the function."""
        starts = sorted(self.functions)
        below = [start for start in starts if start <= self.pc]
        return below and below[-1] == goal and self.x[2] != self.calls[-1][1]

    def look_at_end(self):
        """Where a call ends, or goes on elsewhere, all that is kept is as at its beginning."""
        back, sp, kept = self.calls[-1]
        assert self.x[1] == back and self.x[2] == sp and [self.x[number] for number in KEPT] == kept

    def back(self, rd, goal):
        assert rd == 0
        if self.look:
            self.look_at_end()
            assert goal == self.calls[-1][0]
        self.calls.pop()
        self.next = goal

    def load(self, address):
        if address not in self.memory:
            self.astray()
        return self.memory[address]

    def store(self, address, word):
        if address not in self.memory:
            self.astray()
        if self.look and self.calls:
            in_data = self.data[0] <= address < self.data[1]
            # Nobody writes below the stack pointer; a caller's slots may be written, as they may be handed.
            assert in_data or address >= self.x[2], (hex(address), hex(self.x[2]))
        self.memory[address] = word

    def ecall(self):
        x = self.x
        if x[17] == 0:
            raise Ended(("answer", x[10]))
        if x[17] == 1:
            self.outputs.append(x[10])
        elif x[17] == 2:
            if not self.inputs:
                raise Ended(("trap", "input", self.place()))
            x[10] = self.inputs.pop(0)
        elif x[17] == 3:
            x[10] = int(bool(self.inputs))
        else:
            self.astray()


def run_machine(image, inputs, most, look=True):
    return TestMachine(image, inputs, look).run(most)

"""A run of chosen rows as [42] tells, for tests alone: nothing here uses the package."""

from middleruns import TWO32, WORKS, Ended, divided, with_sign

THREES = {
    "add": WORKS["add"], "sub": WORKS["sub"], "mul": WORKS["mul"], "and": WORKS["and"], "or": WORKS["or"],
    "xor": WORKS["xor"], "sll": WORKS["shl"], "srl": WORKS["shr"], "sra": WORKS["sar"], "slt": WORKS["lts"],
    "sltu": WORKS["ltu"], "divu": WORKS["divu"], "remu": WORKS["remu"],
    "div": lambda a, b: divided(a, b)[0],
    "rem": lambda a, b: divided(a, b)[1],
    "mulhu": lambda a, b: a * b >> 32,
    "mulh": lambda a, b: (with_sign(a) * with_sign(b) >> 32) % TWO32,
    "mulhsu": lambda a, b: (with_sign(a) * b >> 32) % TWO32,
}
IMMS = {
    "addi": "add", "slti": "slt", "sltiu": "sltu", "xori": "xor", "ori": "or", "andi": "and", "slli": "sll",
    "srli": "srl", "srai": "sra",
}
BRANCHES = {
    "beq": lambda a, b: a == b,
    "bne": lambda a, b: a != b,
    "blt": lambda a, b: with_sign(a) < with_sign(b),
    "bge": lambda a, b: with_sign(a) >= with_sign(b),
    "bltu": lambda a, b: a < b,
    "bgeu": lambda a, b: a >= b,
}


class LowRun:
    def __init__(self, units, inputs, limit, most):
        self.inputs = list(inputs)
        self.limit = limit
        self.most = most
        self.outputs = []
        self.steps = 0
        self.functions = {function[0]: function for unit in units for function in unit[2]}
        self.memory = {}
        self.things = {}
        # Objects stand far from one another.
        self.next = 65536
        for unit in units:
            for name, _, words, firsts in unit[1]:
                self.things[name] = self.object(list(firsts) + [0] * (words - len(firsts)))
        self.frames = []

    def object(self, words):
        start = self.next
        for at, word in enumerate(words):
            self.memory[start + 4 * at] = word
        self.next += 4 * len(words) + 4096
        return start

    def begin(self, name, args):
        function = self.functions[name]
        slots = [self.object([0] * words) for words in function[1]]
        params = function[2][0][0]
        assert len(params) == len(args), name
        self.frames.append([function, dict(zip(params, args)), slots, 0, 0])

    def end_frame(self):
        function, _, slots, _, _ = self.frames.pop()
        for start, words in zip(slots, function[1]):
            for at in range(words):
                del self.memory[start + 4 * at]

    def told(self):
        try:
            self.begin("main", [1])
            while True:
                self.round()
        except Ended as ended:
            return tuple(self.outputs), ended.args[0], self.steps

    def round(self):
        if self.steps >= self.most:
            raise Ended(("on",))
        self.steps += 1
        function, values, _, block, at = self.frames[-1]
        _, rows, end = function[2][block]
        if at < len(rows):
            self.frames[-1][4] += 1
            getattr(self, "row_" + rows[at][0])(values, *rows[at][1:])
        else:
            getattr(self, "end_" + end[0])(values, *end[1:])

    def get(self, values, value):
        return 0 if value == -1 else values[value]

    def address(self, values, kind, what, distance, place):
        if kind == "at":
            start = self.get(values, what)
        else:
            start = self.frames[-1][2][what] if kind == "slot" else self.things[what]
        address = (start + distance) % TWO32
        if address not in self.memory:
            raise Ended(("astray", place))
        return address

    def row_set(self, values, v, word, place):
        assert 0 <= word < TWO32
        values[v] = word

    def row_name(self, values, v, name, place):
        values[v] = self.things[name]

    def row_slot(self, values, v, number, place):
        values[v] = self.frames[-1][2][number]

    def row_three(self, values, op, v, a, b, place):
        values[v] = THREES[op](self.get(values, a), self.get(values, b))

    def row_imm(self, values, op, v, a, n, place):
        assert -2048 <= n <= 2047 and (op[-2:] not in ("li", "ai") or 0 <= n <= 31), (op, n)
        values[v] = THREES[IMMS[op]](self.get(values, a), n % TWO32)

    def row_load(self, values, v, kind, what, distance, place):
        values[v] = self.memory[self.address(values, kind, what, distance, place)]

    def row_store(self, values, a, kind, what, distance, place):
        self.memory[self.address(values, kind, what, distance, place)] = self.get(values, a)

    def row_must(self, values, op, a, b, trap, place):
        if not BRANCHES[op](self.get(values, a), self.get(values, b)):
            raise Ended(("trap", trap, place))

    def row_deep(self, values, v, a, deeper, place):
        values[v] = self.get(values, a) + deeper
        if values[v] > self.limit:
            raise Ended(("trap", "stack", place))

    def row_call(self, values, v, name, args, place):
        self.begin(name, [self.get(values, arg) for arg in args])

    def row_out(self, values, a, place):
        self.outputs.append(self.get(values, a))

    def row_in(self, values, v, place):
        if not self.inputs:
            raise Ended(("trap", "input", place))
        values[v] = self.inputs.pop(0)

    def row_more(self, values, v, place):
        values[v] = int(bool(self.inputs))

    def end_go(self, values, block, args):
        handed = [self.get(values, arg) for arg in args]
        params = self.frames[-1][0][2][block][0]
        assert len(params) == len(handed)
        values.update(zip(params, handed))
        self.frames[-1][3:] = [block, 0]

    def end_branch(self, values, op, a, b, one, first, other, second):
        if BRANCHES[op](self.get(values, a), self.get(values, b)):
            self.end_go(values, one, first)
        else:
            self.end_go(values, other, second)

    def end_return(self, values, a):
        answer = self.get(values, a)
        self.end_frame()
        if not self.frames:
            raise Ended(("answer", answer))
        function, outer, _, block, at = self.frames[-1]
        outer[function[2][block][1][at - 1][1]] = answer

    def end_tail(self, values, name, args, place):
        handed = [self.get(values, arg) for arg in args]
        self.end_frame()
        self.begin(name, handed)

    def end_trap(self, values, kind, place):
        raise Ended(("trap", kind, place))


def run_chosen(units, inputs, limit, most):
    return LowRun(units, inputs, limit, most).told()

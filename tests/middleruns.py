"""A run of middle code as [20] tells, for tests alone: nothing here uses the package."""

TWO32 = 2 ** 32
TWO30 = 2 ** 30
TWO31 = 2 ** 31


def with_sign(word):
    return word - TWO32 if word >= TWO31 else word


def divided(a, b):
    """Quotient and rest with signs, rounded towards 0."""
    if b == 0:
        return TWO32 - 1, a
    x, y = with_sign(a), with_sign(b)
    quotient = abs(x) // abs(y) * (1 if (x < 0) == (y < 0) else -1)
    return quotient % TWO32, (x - quotient * y) % TWO32


WORKS = {
    "add": lambda a, b: (a + b) % TWO32,
    "sub": lambda a, b: (a - b) % TWO32,
    "mul": lambda a, b: a * b % TWO32,
    "and": lambda a, b: a & b,
    "or": lambda a, b: a | b,
    "xor": lambda a, b: a ^ b,
    "shl": lambda a, b: (a << b % 32) % TWO32,
    "shr": lambda a, b: a >> b % 32,
    "sar": lambda a, b: (with_sign(a) >> b % 32) % TWO32,
    "lts": lambda a, b: int(with_sign(a) < with_sign(b)),
    "ltu": lambda a, b: int(a < b),
    "eq": lambda a, b: int(a == b),
    "divs": lambda a, b: divided(a, b)[0],
    "rems": lambda a, b: divided(a, b)[1],
    "divu": lambda a, b: TWO32 - 1 if b == 0 else a // b,
    "remu": lambda a, b: a if b == 0 else a % b,
}


class Ended(Exception):
    """A run has ended so."""


class MiddleRun:
    def __init__(self, units, inputs, limit, most):
        self.inputs = list(inputs)
        self.limit = limit
        self.most = most
        self.outputs = []
        self.steps = 0
        self.functions = {function[0]: function for unit in units for function in unit[2]}
        self.things = {}
        for unit in units:
            for name, _, words, firsts in unit[1]:
                self.things.setdefault(name, list(firsts) + [0] * (words - len(firsts)))
        # The open calls: [function, depth, values, slots, block, row].
        self.frames = []

    def step(self):
        if self.steps >= self.most:
            raise Ended(("on",))
        self.steps += 1

    def begin(self, name, args, depth):
        function = self.functions[name]
        slots = [[0] * words for words in function[2]]
        self.steps += sum(function[2])
        self.frames.append([function, depth, dict(zip(function[3][0][0], args)), slots, 0, 0])

    def deeper(self, by, place):
        depth = self.frames[-1][1] + by
        if depth > self.limit:
            raise Ended(("trap", "stack", place))
        return depth

    def told(self):
        try:
            self.begin("main", [], 1)
            while True:
                self.round()
        except Ended as ended:
            return tuple(self.outputs), ended.args[0], self.steps

    def round(self):
        function, _, values, _, block, at = self.frames[-1]
        _, rows, end = function[3][block]
        self.step()
        if at < len(rows):
            self.frames[-1][5] += 1
            getattr(self, "row_" + rows[at][0])(values, *rows[at][1:])
        else:
            getattr(self, "end_" + end[0])(values, *end[1:])

    def word(self, address, offset, place):
        words, at = address
        at = (at + offset) % TWO30
        if at >= len(words):
            raise Ended(("astray", place))
        return words, at

    def row_const(self, values, v, word, place):
        values[v] = word

    def row_op(self, values, v, kind, a, b, place):
        values[v] = WORKS[kind](values[a], values[b])

    def row_address(self, values, v, what, place):
        values[v] = (self.things[what] if isinstance(what, str) else self.frames[-1][3][what], 0)

    def row_index(self, values, v, a, i, scale, place):
        words, at = values[a]
        values[v] = (words, (at + values[i] * scale) % TWO30)

    def row_load(self, values, v, a, offset, place):
        words, at = self.word(values[a], offset, place)
        values[v] = words[at]

    def row_store(self, values, a, offset, b, place):
        words, at = self.word(values[a], offset, place)
        words[at] = values[b]

    def row_check(self, values, a, kind, place):
        if values[a] == 0:
            raise Ended(("trap", kind, place))

    def row_call(self, values, v, name, args, deeper, place):
        self.begin(name, [values[arg] for arg in args], self.deeper(deeper, place))

    def row_enter(self, values, deeper, place):
        self.deeper(deeper, place)

    def row_out(self, values, a, place):
        self.outputs.append(values[a])

    def row_in(self, values, v, place):
        if not self.inputs:
            raise Ended(("trap", "input", place))
        values[v] = self.inputs.pop(0)

    def row_more(self, values, v, place):
        values[v] = int(bool(self.inputs))

    def go(self, values, block, args):
        frame = self.frames[-1]
        handed = [values[arg] for arg in args]
        values.update(zip(frame[0][3][block][0], handed))
        frame[4:] = [block, 0]

    def end_go(self, values, block, args):
        self.go(values, block, args)

    def end_if(self, values, a, one, first, other, second):
        if values[a] != 0:
            self.go(values, one, first)
        else:
            self.go(values, other, second)

    def end_return(self, values, a):
        self.frames.pop()
        if not self.frames:
            raise Ended(("answer", values[a]))
        function, _, outer, _, block, at = self.frames[-1]
        outer[function[3][block][1][at - 1][1]] = values[a]

    def end_tail(self, values, name, args, deeper, place):
        depth = self.deeper(deeper, place)
        self.frames.pop()
        self.begin(name, [values[arg] for arg in args], depth)

    def end_trap(self, values, kind, place):
        raise Ended(("trap", kind, place))


def run_middle(units, inputs, limit, most):
    return MiddleRun(units, inputs, limit, most).told()

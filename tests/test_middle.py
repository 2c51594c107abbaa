"""[16] to [18]: which functions of middle code are well-formed."""

import unittest

from middlefunctions import random_function, random_unit
from trueimage.middle import wrong_function

AT = ("m", 1, 1)
# Ahead of the row or end that is looked at: values 0 (word), 1 (word), 2 (address), 3 (address of a slot).
AHEAD = (("const", 1, 5, AT), ("address", 2, "g", AT), ("address", 3, 0, AT))


def function_of(rows, end, slots=(4,), more=()):
    """A function whose entry has the value 0 as its param, and these rows and this end behind AHEAD."""
    return ("f", "int(int)", slots, (((0,), AHEAD + tuple(rows), end),) + tuple(more))


def with_row(row, **told):
    return function_of((row,), ("return", 0), **told)


RIGHT_ROWS = (
    ("const", 9, 0, AT), ("const", 9, 2 ** 32 - 1, AT), ("op", 9, "add", 0, 1, AT), ("op", 9, "remu", 1, 1, AT),
    ("address", 9, "h", AT), ("address", 9, 0, AT), ("index", 9, 2, 0, 1, AT), ("index", 9, 3, 0, 256, AT),
    ("load", 9, 2, 0, AT), ("load", 9, 3, 255, AT), ("store", 2, 0, 0, AT), ("store", 3, 255, 1, AT),
    ("check", 0, "bounds", AT), ("check", 0, "zero", AT), ("check", 0, "told", AT), ("call", 9, "f", (0,), 1, AT),
    ("call", 9, "any", (0, 2, 3, 1), 1000, AT), ("call", 9, "any", (), 500, AT), ("enter", 1, AT), ("enter", 1000, AT),
    ("out", 0, AT), ("in", 9, AT), ("more", 9, AT),
)
WRONG_ROWS = (
    # Too few and too many parts, names of no rows, values that are none.
    ("const", 9, AT), ("const", 9, 0, 0, AT), ("op", 9, "add", 0, AT), ("nop", AT), (), ("out",), ("go", 1, ()),
    ["out", 0, AT], "out", None, 7, ("const", -1, 0, AT), ("const", True, 0, AT), ("const", "9", 0, AT), ("const", None, 0, AT),
    (["const"], 9, 0, AT), (("const",), 9, 0, AT),
    # Numbers beyond their bounds, and numbers that are none.
    ("const", 9, 2 ** 32, AT), ("const", 9, -1, AT), ("const", 9, True, AT), ("const", 9, "0", AT), ("const", 9, None, AT),
    ("index", 9, 2, 0, 0, AT), ("index", 9, 2, 0, 257, AT), ("index", 9, 2, 0, True, AT), ("load", 9, 2, -1, AT),
    ("load", 9, 2, 256, AT), ("load", 9, 2, False, AT), ("store", 2, 256, 0, AT), ("store", 2, -1, 0, AT),
    ("call", 9, "f", (0,), 0, AT), ("call", 9, "f", (0,), 1001, AT), ("call", 9, "f", (0,), True, AT),
    # Kinds of work and checks, args, names.
    ("op", 9, "plus", 0, 1, AT), ("op", 9, None, 0, 1, AT), ("op", 9, ["add"], 0, 1, AT), ("check", 0, 5, AT),
    ("check", 0, None, AT), ("call", 9, "f", [0], 1, AT), ("call", 9, "f", 0, 1, AT), ("call", 9, "f", (True,), 1, AT),
    ("call", 9, 5, (0,), 1, AT), ("address", 9, None, AT), ("address", 9, ("g",), AT),
    # Slots that aren't there.
    ("address", 9, 1, AT), ("address", 9, -1, AT), ("address", 9, False, AT),
    # A value given twice.
    ("const", 0, 0, AT), ("const", 1, 0, AT), ("in", 2, AT), ("call", 3, "f", (), 1, AT),
    # A value that is never given, or given later.
    ("out", 8, AT), ("op", 9, "add", 9, 1, AT), ("op", 9, "add", 1, 8, AT), ("call", 9, "f", (0, 8), 1, AT),
    # A word where an address is wanted, and the other way round.
    ("index", 9, 0, 1, 1, AT), ("index", 9, 2, 3, 1, AT), ("load", 9, 0, 0, AT), ("store", 1, 0, 0, AT), ("store", 2, 0, 3, AT),
    ("check", 2, "zero", AT), ("out", 3, AT), ("op", 9, "add", 2, 1, AT), ("op", 9, "add", 1, 3, AT),
)
NEXT = ((9, 10), (), ("return", 9))
RIGHT_ENDS = (
    ("go", 1, (0, 1)), ("go", 1, (0, 2)), ("if", 0, 1, (0, 2), 1, (1, 3)), ("return", 1), ("trap", "zero", AT),
    ("trap", "told", AT),
)
WRONG_ENDS = (
    ("go", 1), ("go", 1, (0,)), ("go", 1, (0, 1, 1)), ("go", 1, ()), ("go", 2, (0, 1)), ("go", 0, (0,)), ("go", -1, (0, 1)),
    ("go", True, (0, 1)), ("go", 1, [0, 1]), ("go", 1, (0, 8)), ("go", 1, (2, 0)), ("if", 0, 1, (0, 1)),
    ("if", 2, 1, (0, 1), 1, (0, 1)), ("if", 0, 1, (0, 1), 0, (0,)), ("if", 0, 0, (0,), 1, (0, 1)), ("if", 8, 1, (0, 1), 1, (0, 1)),
    ("if", 0, 1, (0, 1), 1, (0,)), ("if", 0, 1, (0, 1), 1, (0, 2)), ("return",), ("return", 2), ("return", 8), ("return", 0, AT),
    ("return", True), ("trap", 5, AT), ("out", 0, AT), (), None, ["return", 0], "return",
)


class FunctionTest(unittest.TestCase):
    def right(self, function):
        self.assertIsNone(wrong_function(function), function)

    def wrong(self, function):
        self.assertIsInstance(wrong_function(function), str, function)

    def test_rows(self):
        for row in RIGHT_ROWS:
            self.right(with_row(row))
        for row in WRONG_ROWS:
            self.wrong(with_row(row))

    def test_ends(self):
        for end in RIGHT_ENDS:
            self.right(function_of((), end, more=(NEXT,)))
        for end in WRONG_ENDS:
            self.wrong(function_of((), end, more=(NEXT,)))

    def test_tails(self):
        ahead = (("const", 1, 5, AT), ("address", 2, "g", AT))
        for end, right in (
            (("tail", "f", (0,), 1, AT), True), (("tail", "any", (), 1000, AT), True), (("tail", "any", (0, 2, 1), 7, AT), True),
            (("tail", "f", (0,), 1), False), (("tail", "f", (8,), 1, AT), False), (("tail", 5, (0,), 1, AT), False),
            (("tail", "f", 0, 1, AT), False), (("tail", "f", [0], 1, AT), False),
        ):
            told = wrong_function(("f", "int(int)", (), (((0,), ahead, end),)))
            self.assertEqual(told is None, right, end)

    def test_functions(self):
        block = ((), (("const", 0, 1, AT),), ("return", 0))
        self.right(("main", "int()", (), (block,)))
        self.right(("main", "int()", (1, 256), (block,)))
        for slots in ((0,), (257,), (True,), (1, "1"), [1], 1, None, (-1,)):
            self.wrong(("main", "int()", slots, (block,)))
        for blocks in ((), [block], None, 5, (list(block),), (block[:2],), (block + (1,),), (None,), ((None,) + block[1:],)):
            self.wrong(("main", "int()", (), blocks))
        for thing in (None, 5, "f", [], (), ["main", "int()", (), (block,)], ("main", "int()", ()), {}, {1}, object(), 2.5):
            self.wrong(thing)
        self.wrong(("main", "int()", (), (block,), ()))
        self.wrong(((), "int()", (), (block,)))
        self.wrong(("main", None, (), (block,)))

    def test_params_are_those_of_the_kind(self):
        for kind, many in (("int()", 0), ("uint(int)", 1), ("void(int[])", 2), ("int(int,uint[],m.s[])", 5), ("int(m.s[],int)", 3)):
            for told in range(8):
                body = ((("const", 9, 0, AT),), ("return", 9))
                function = ("f", kind, (), ((tuple(range(told)),) + body,))
                self.assertEqual(wrong_function(function) is None, told == many, (kind, told))
        # An address and a word each.
        for value, right in ((0, False), (1, True), (2, True), (3, False), (4, True)):
            self.assertEqual(wrong_function(("f", "int(int[],int,int[])", (), (((0, 1, 2, 3, 4), (), ("return", value)),))) is None, right)
        seven = "int(" + ",".join(["int"] * 7) + ")"
        eight = "int(" + ",".join(["int"] * 8) + ")"
        self.right(("f", seven, (), ((tuple(range(7)), (), ("return", 0)),)))
        self.wrong(("f", eight, (), ((tuple(range(8)), (), ("return", 0)),)))
        self.wrong(("f", "int(int,int)", (), (((0, 0), (), ("return", 0)),)))

    def test_a_value_is_given_on_every_way(self):
        def diamond(first, second, last, params=(), args=()):
            entry = ((0,), (), ("if", 0, 1, (), 2, ()))
            return ("f", "int(int)", (), (entry, ((), first, ("go", 3, args)), ((), second, ("go", 3, args)), (params, last, ("return", 0))))

        given = (("const", 5, 1, AT),)
        used = (("out", 5, AT),)
        self.wrong(diamond(given, (), used))
        self.wrong(diamond((), given, used))
        self.wrong(diamond(given, used, ()))
        self.right(diamond(given + used, (), ()))
        self.right(diamond((), (), (("const", 5, 1, AT),) + used))
        self.wrong(diamond((), (), used + (("const", 5, 1, AT),)))
        self.right(diamond((), (), (("out", 6, AT),), (6,), (0,)))
        # A param is given ahead of the block's rows, but not where it is handed first.
        self.wrong(diamond((), (), (), (6,), (6,)))

    def test_loops(self):
        def loop(first, back, rows=()):
            return ("f", "int(int)", (), (
                ((0,), (), ("go", 1, (first,))), ((1,), rows, ("if", 0, 1, (back,), 2, ())), ((), (), ("return", 1))))

        self.right(loop(0, 0))
        self.right(loop(0, 1))
        self.wrong(loop(1, 0))
        self.right(loop(0, 2, (("op", 2, "add", 1, 0, AT),)))
        self.wrong(loop(0, 2, (("address", 2, "g", AT),)))
        self.wrong(loop(2, 0, (("op", 2, "add", 1, 0, AT),)))

    def test_sorts_of_params(self):
        def handed(first, second, want):
            rows = (("address", 1, "g", AT), ("address", 2, "h", AT), ("const", 3, 0, AT))
            last = {"word": ("out", 5, AT), "address": ("load", 6, 5, 0, AT)}[want]
            return ("f", "int(int)", (), (
                ((0,), rows, ("if", 0, 1, (first,), 2, (second,))), ((4,), (), ("go", 2, (4,))), ((5,), (last,), ("return", 0))))

        for first, second, want, right in (
            (0, 3, "word", True), (1, 2, "address", True), (1, 2, "word", False), (0, 3, "address", False), (0, 1, "word", False),
            (1, 0, "address", False), (1, 0, "word", False),
        ):
            self.assertEqual(wrong_function(handed(first, second, want)) is None, right, (first, second, want))

    def test_blocks_that_cannot_be_come_to(self):
        entry = ((0,), (), ("return", 0))

        def with_block(*blocks):
            return ("f", "int(int)", (2,), (entry,) + blocks)

        # Uses and sorts are not looked at there.
        self.right(with_block(((), (("out", 77, AT),), ("return", 78))))
        self.right(with_block(((), (("address", 5, "g", AT), ("out", 5, AT), ("load", 6, 0, 0, AT)), ("return", 5))))
        self.right(with_block(((5,), (), ("go", 1, (5,)))))
        # Forms, givings, blocks and slots are.
        self.wrong(with_block(((), (("out", 77),), ("return", 78))))
        self.wrong(with_block(((), (("const", 0, 5, AT),), ("return", 0))))
        self.wrong(with_block(((0,), (), ("return", 0))))
        self.wrong(with_block(((), (), ("go", 0, (5,)))))
        self.wrong(with_block(((), (), ("go", 2, ()))))
        self.wrong(with_block(((7,), (), ("go", 1, ()))))
        self.wrong(with_block(((), (("address", 5, 1, AT),), ("return", 0))))
        self.wrong(with_block(((), (("load", 5, 0, 256, AT),), ("return", 0))))
        # What is given there isn't given where it can be come to.
        used = ((0,), (("out", 5, AT),), ("return", 0))
        self.wrong(("f", "int(int)", (), (used, ((), (("const", 5, 1, AT),), ("return", 5)))))
        # What is handed there has no say.
        first = ((0,), (), ("go", 1, (0,)))
        second = ((1,), (("out", 1, AT),), ("return", 1))
        third = ((), (("address", 7, "g", AT),), ("go", 1, (7,)))
        self.right(("f", "int(int)", (), (first, second, third)))

    def test_random_functions(self):
        for seed in range(400):
            function = random_function(seed, most_blocks=9)
            self.right(function)
            self.right(random_unit(seed, most_blocks=3)[2][-1])
            for other in _one_fault(function):
                self.wrong(other)


def _one_fault(function):
    """The function with one fault, at each place where there can be one."""
    name, kind, slots, blocks = function
    for number, (params, rows, end) in enumerate(blocks):
        faults = []
        if rows:
            row = rows[-1]
            faults.append((params, rows + (row[:-1],), end))
            faults.append((params, rows[:-1] + (list(row),), end))
            if row[0] not in ("store", "check", "enter", "out"):
                faults.append((params, rows + (row,), end))
                faults.append((params + (row[1],), rows, end))
        if end[0] == "go":
            faults.append((params, rows, ("go", end[1], end[2] + (0,))))
            faults.append((params, rows, ("go", len(blocks), end[2])))
            faults.append((params, rows, ("go", 0, blocks[0][0])))
        for block in faults:
            yield (name, kind, slots, blocks[:number] + (block,) + blocks[number + 1:])


if __name__ == "__main__":
    unittest.main()

"""[19]: units, and which go together."""

import unittest

from middlefunctions import random_unit
from trueimage.errors import BadUnit
from trueimage.units import check_unit, wrong_together

AT = ("m", 1, 1)
LEAF = ("leaf", "int(int)", (), (((0,), (), ("return", 0)),))
SLICED = ("sliced", "int(int[],int)", (), (((0, 1, 2), (), ("return", 1)),))


def main_of(*rows, end=("return", 0), name="main"):
    ahead = (("const", 0, 3, AT), ("address", 1, "g", AT))
    return (name, "int()", (), (((), ahead + rows, end),))


def unit_of(*functions, things=(("g", "int[4]", 4, (1, 2)),), wants=(), name="m"):
    return (name, things, functions, wants)


class CheckUnitTest(unittest.TestCase):
    def right(self, unit):
        self.assertIsNone(check_unit(unit))

    def wrong(self, unit):
        with self.assertRaises(BadUnit, msg=unit):
            check_unit(unit)

    def test_forms(self):
        right = unit_of(main_of(), LEAF)
        self.right(right)
        self.right(unit_of(things=(), name=""))
        for thing in (None, 5, "m", (), list(right), right[:3], right + ((),), {}, (5,) + right[1:], ("m", [], (), ())):
            self.wrong(thing)
        self.wrong(("m", (), [], ()))
        self.wrong(("m", (), (), []))
        self.wrong(("m", (), (None,), ()))
        self.wrong(("m", (), (list(LEAF),), ()))
        self.wrong(unit_of(main_of(("out", 77, AT))))

    def test_globals(self):
        for thing, right in (
            (("h", "int", 1, ()), True), (("h", "int", 1, (2 ** 32 - 1,)), True), (("h", "s", 4096, (0,) * 4096), True),
            (("h", "int", 0, ()), False), (("h", "int", 4097, ()), False), (("h", "int", True, ()), False),
            (("h", "int", 1, (1, 2)), False), (("h", "int", 1, (2 ** 32,)), False), (("h", "int", 1, (-1,)), False),
            (("h", "int", 1, (True,)), False), (("h", "int", 1, [1]), False), (("h", "int", 1, None), False), (("h", "int", 1), False),
            ((5, "int", 1, ()), False), (("h", 5, 1, ()), False), (["h", "int", 1, ()], False), (None, False),
        ):
            unit = unit_of(main_of(), things=(("g", "int", 1, ()), thing))
            if right:
                self.right(unit)
            else:
                self.wrong(unit)

    def test_wants(self):
        for wants, right in (
            ((), True), ((("far", "int()", 0),), True), ((("a", "int", -1), ("b", "int(int)", 1)), True),
            ((("b", "int", -1), ("a", "int", -1)), False), ((("a", "int", -1), ("a", "int", -1)), False),
            ((("a", "int", -2),), False), ((("a", "int", True),), False), ((("a", "int", "1"),), False), ((("a", "int"),), False),
            ((["a", "int", -1],), False), ((5,), False), (((5, "int", -1),), False), ((("a", 5, -1),), False), ("", False),
        ):
            if right:
                self.right(unit_of(main_of(), wants=wants))
            else:
                self.wrong(unit_of(main_of(), wants=wants))

    def test_names_given_twice_or_given_and_wanted(self):
        g = ("g", "int", 1, ())
        self.wrong(unit_of(main_of(), things=(g, g)))
        self.wrong(unit_of(LEAF, LEAF))
        self.wrong(unit_of(main_of(), main_of(name="g")))
        self.wrong(unit_of(main_of(), wants=(("g", "int", -1),)))
        self.wrong(unit_of(main_of(), wants=(("main", "int()", 0),)))
        self.right(unit_of(main_of(), LEAF, wants=(("far", "int()", 0),)))

    def test_calls(self):
        for row, right in (
            (("call", 5, "leaf", (0,), 1, AT), True), (("call", 5, "leaf", (), 1, AT), False), (("call", 5, "leaf", (0, 0), 1, AT), False),
            (("call", 5, "leaf", (1,), 1, AT), False), (("call", 5, "sliced", (1, 0, 0), 1, AT), True),
            (("call", 5, "sliced", (0, 0, 0), 1, AT), False), (("call", 5, "sliced", (1, 1, 0), 1, AT), False),
            (("call", 5, "nobody", (0,), 1, AT), False), (("call", 5, "g", (0,), 1, AT), False), (("call", 5, "main", (), 1, AT), True),
            (("call", 5, "far", (0, 1, 0), 1, AT), True), (("call", 5, "far", (0, 1), 1, AT), False),
            (("call", 5, "far", (1, 0, 0), 1, AT), False), (("call", 5, "there", (), 1, AT), False),
        ):
            unit = unit_of(main_of(row), LEAF, SLICED, wants=(("far", "int(int,int[])", 3), ("there", "int", -1)))
            if right:
                self.right(unit)
            else:
                self.wrong(unit)

    def test_tails(self):
        for end, right in (
            (("tail", "leaf", (0,), 1, AT), True), (("tail", "leaf", (1,), 1, AT), False), (("tail", "leaf", (), 1, AT), False),
            (("tail", "sliced", (1, 0, 0), 1, AT), True), (("tail", "nobody", (0,), 1, AT), False), (("tail", "g", (0,), 1, AT), False),
        ):
            unit = unit_of(main_of(end=end), LEAF, SLICED)
            if right:
                self.right(unit)
            else:
                self.wrong(unit)

    def test_addresses(self):
        wants = (("far", "int()", 0), ("there", "int", -1))
        for name, right in (("g", True), ("there", True), ("leaf", False), ("far", False), ("nobody", False), ("main", False)):
            unit = unit_of(main_of(("address", 5, name, AT)), LEAF, wants=wants)
            if right:
                self.right(unit)
            else:
                self.wrong(unit)

    def test_blocks_that_cannot_be_come_to(self):
        block = ((), (("address", 5, 0, AT),), ("return", 5))
        function = ("main", "int()", (1,), (((), (("const", 0, 1, AT),), ("return", 0)), block))
        self.right(unit_of(function))
        self.wrong(unit_of(function[:3] + ((function[3][0], (block[0], block[1][0], block[2])),)))

    def test_random_units(self):
        for seed in range(200):
            self.right(random_unit(seed))


def plain(name, things=(), functions=(), wants=()):
    made = tuple((word, "int" if many == 1 else "int[" + str(many) + "]", many, ()) for word, many in things)
    bodies = []
    for word, params in functions:
        values = tuple(range(params))
        bodies.append((word, "int(" + ",".join(["int"] * params) + ")", (), ((values, (("const", 9, 0, AT),), ("return", 9)),)))
    return (name, made, tuple(bodies), tuple(wants))


class TogetherTest(unittest.TestCase):
    def test_nothing_wrong(self):
        one = plain("one", (("g", 1),), (("main", 0),), (("f", "int(int)", 1), ("h", "int[3]", -1)))
        other = plain("other", (("h", 3),), (("f", 1),), (("g", "int", -1), ("main", "int()", 0)))
        self.assertEqual(wrong_together([one, other]), [])
        self.assertEqual(wrong_together((other, one)), [])

    def test_doubled(self):
        one = plain("one", (("a", 1), ("b", 1)), (("main", 0), ("c", 0)))
        other = plain("other", (("c", 1), ("a", 1)), (("b", 0), ("d", 0)))
        self.assertEqual(wrong_together([one, other]), [("doubled", "c"), ("doubled", "a"), ("doubled", "b")])
        self.assertEqual(wrong_together([other, one]), [("doubled", "a"), ("doubled", "b"), ("doubled", "c")])
        self.assertEqual(wrong_together([one, one, one]).count(("doubled", "main")), 2)

    def test_missing_and_unlike(self):
        main = plain("main", (), (("main", 0),))
        wants = (("a", "int", -1), ("b", "int(int)", 1), ("c", "int()", 0))
        wanting = plain("wanting", (), (), wants)
        self.assertEqual(wrong_together([main, wanting]), [("missing", "a"), ("missing", "b"), ("missing", "c")])
        self.assertEqual(wrong_together([main, wanting, wanting]).count(("missing", "b")), 2)
        giving = plain("giving", (("a", 2), ("b", 1)), (("c", 0),))
        self.assertEqual(wrong_together([wanting, main, giving]), [("unlike", "a"), ("unlike", "b")])
        # The first one that gives a name counts.
        right = plain("right", (("a", 1),), (("b", 1),))
        told = wrong_together([wanting, main, right, giving])
        self.assertEqual(told, [("doubled", "a"), ("doubled", "b")])
        told = wrong_together([wanting, main, giving, right])
        self.assertEqual(told, [("doubled", "a"), ("doubled", "b"), ("unlike", "a"), ("unlike", "b")])

    def test_kind_and_number_must_be_the_same(self):
        giving = plain("m", (("a", 1),), (("main", 0), ("f", 1)))
        for want, right in (
            (("f", "int(int)", 1), True), (("f", "int(uint)", 1), False), (("f", "int(int)", 2), False), (("f", "int(int)", -1), False),
            (("a", "int", -1), True), (("a", "uint", -1), False), (("a", "int", 0), False),
        ):
            told = wrong_together([giving, plain("n", wants=(want,))])
            self.assertEqual(told, [] if right else [("unlike", want[0])], want)

    def test_main(self):
        self.assertEqual(wrong_together([]), [("missing", "main")])
        self.assertEqual(wrong_together([plain("m", (("main", 1),))]), [("unlike", "main")])
        self.assertEqual(wrong_together([plain("m", (), (("main", 1),))]), [("unlike", "main")])
        self.assertEqual(wrong_together([plain("m", (), (("main", 0),)), plain("n", (("main", 1),))]), [("doubled", "main")])
        self.assertEqual(
            wrong_together([plain("n", (("main", 1),), (), (("x", "int", -1),)), plain("m", (), (("main", 0),))]),
            [("doubled", "main"), ("missing", "x"), ("unlike", "main")])


if __name__ == "__main__":
    unittest.main()

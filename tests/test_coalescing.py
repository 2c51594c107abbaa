"""[46]: how many moves stand at the ends of functions, and the registers of colourings."""

import itertools
import random
import unittest

from middlefunctions import random_unit
from programs import random_program
from randomcolours import FREE, KEPT, random_colouring
from support import checked
from trueimage.choosing import chosen
from trueimage.coalescing import moves_in, registers_in
from trueimage.colourcheck import wrong_colours
from trueimage.colours import colours_of, colours_within
from trueimage.lowering import lower_module

AT = ("m", 1, 1)


def fewest(pairs):
    """The fewest moves that do what pairs of a goal and a source do at once: one for each, and one for each round."""
    sources = {goal: source for goal, source in pairs if goal != source}
    rounds = set()
    for goal in sources:
        row = [goal]
        while sources.get(row[-1]) in sources and sources[row[-1]] not in row:
            row.append(sources[row[-1]])
        if sources[row[-1]] == goal and all(list(sources.values()).count(one) == 1 for one in row):
            rounds.add(frozenset(row))
    return len(sources) + len(rounds)


def counted(function, colouring):
    """The moves at all ends of a function, counted here."""
    spots = {value: (kind, number) for value, kind, number in colouring[1]}
    spots[-1] = ("r", 0)
    many = 0
    for _, _, end in function[2]:
        goals = {"go": [end[1:3]], "branch": [end[4:6], end[6:8]]}.get(end[0], [])
        for goal, args in goals:
            many += fewest([(spots[param], spots[arg]) for param, arg in zip(function[2][goal][0], args)])
    return many


class MovesInTest(unittest.TestCase):
    def test_by_hand(self):
        blocks = (((0, 1, 2), (), ("branch", "beq", 1, 2, 1, (1, 2), 1, (2, 1))), ((3, 4), (), ("go", 2, (4, 3, -1))), ((5, 6, 7), (), ("return", 5)))
        function = ("f", (), blocks)
        table = ((), (), ())
        for spots, many in (
            (((0, "r", 8), (1, "r", 9), (2, "r", 18), (3, "r", 9), (4, "r", 18), (5, "r", 18), (6, "r", 9), (7, "r", 19)), 0 + 3 + 1),
            (((0, "r", 8), (1, "r", 9), (2, "r", 18), (3, "r", 9), (4, "r", 18), (5, "r", 9), (6, "r", 18), (7, "r", 19)), 0 + 3 + 4),
            (((0, "r", 8), (1, "w", 0), (2, "w", 1), (3, "w", 2), (4, "w", 3), (5, "w", 3), (6, "r", 9), (7, "w", 9)), 2 + 2 + 2),
        ):
            self.assertIsNone(wrong_colours(function, (table, spots)))
            self.assertEqual(moves_in(function, (table, spots)), many)

    def test_no_moves(self):
        self.assertEqual(moves_in(("f", (), (((0,), (), ("return", 0)),)), (((),), ((0, "r", 8),))), 0)
        self.assertEqual(moves_in(("f", (), (((0,), (), ("trap", "zero", AT)),)), (((),), ((0, "r", 8),))), 0)
        self.assertEqual(moves_in(("f", (), (((0,), (), ("tail", "g", (0,), AT)),)), (((),), ((0, "r", 8),))), 0)

    def test_random_functions(self):
        found = set()
        for seed in range(200):
            numbers = random.Random(seed)
            unit = lower_module(checked(random_program(seed)[0])[0]) if seed % 3 == 0 else random_unit(seed, numbers.choice((3, 6, 9)))
            for function in unit[2]:
                low = chosen(function)
                few = numbers.randrange(1, 13)
                for colouring in (colours_of(low), colours_within(low, few), random_colouring(low, numbers),
                                  random_colouring(low, numbers, kept=KEPT[:2], free=FREE[:1], words=30, spilled=0.0)):
                    self.assertIsNone(wrong_colours(low, colouring))
                    many = counted(low, colouring)
                    self.assertEqual(moves_in(low, colouring), many)
                    found.add(many)
        self.assertGreater(len(found), 15)

    def test_fewest_of_small_rounds(self):
        spots = [("r", 8), ("r", 9), ("w", 0), ("w", 1)]
        for goals in itertools.permutations(range(4)):
            # The params of block 1 stand in other spots than what is handed for them.
            function = ("f", (), (((0, 1, 2, 3), (), ("go", 1, (0, 1, 2, 3))), ((4, 5, 6, 7), (), ("return", 4))))
            told = tuple((value, *spots[value]) for value in range(4)) + tuple((4 + at, *spots[goals[at]]) for at in range(4))
            self.assertEqual(moves_in(function, (((), ()), told)), counted(function, (((), ()), told)))


class RegistersInTest(unittest.TestCase):
    def test_registers(self):
        for spots, registers in (
            ((), ()), (((0, "w", 0), (1, "w", 8)), ()), (((0, "r", 27), (1, "w", 9), (2, "r", 8), (5, "r", 27)), (8, 27)),
            (tuple((at, "r", number) for at, number in enumerate(FREE + KEPT)), tuple(sorted(KEPT + FREE))),
        ):
            self.assertEqual(registers_in((((),), spots)), registers)

    def test_of_colourings(self):
        for seed in range(60):
            for function in random_unit(seed)[2]:
                low = chosen(function)
                for many in (1, 2, 5, 12):
                    colouring = colours_within(low, many)
                    told = registers_in(colouring)
                    self.assertEqual(told, tuple(sorted({number for _, kind, number in colouring[1] if kind == "r"})))
                    self.assertLessEqual(set(told), set(KEPT[:many]))


if __name__ == "__main__":
    unittest.main()

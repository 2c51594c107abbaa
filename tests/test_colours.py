"""[43] to [45]: what lives, the checker of colourings, and colourings."""

import itertools
import random
import unittest

from middlefunctions import random_unit
from programs import random_program
from randomcolours import FREE, KEPT, neighbours_of, points_of, random_colouring, table_of
from support import checked
from trueimage.choosing import chosen
from trueimage.coalescing import moves_in
from trueimage.colourcheck import wrong_colours
from trueimage.colours import colours_of, colours_within, most_alive, spills_in
from trueimage.lives import is_table, lives
from trueimage.lowcode import low_end_uses, low_gives, low_hands, low_uses
from trueimage.lowering import lower_module

AT = ("m", 1, 1)
LOOP = (
    ((0,), (), ("go", 1, (0,))), ((1,), (("imm", "addi", 2, 1, -1, AT),), ("branch", "bne", 2, -1, 1, (2,), 2, ())), ((), (), ("return", 0)))
TURN = ("f", (), LOOP)
TABLE = ((), (0,), (0,))


def random_lows(seeds, most_blocks=6, most_rows=8):
    """Random functions of chosen rows."""
    for seed in seeds:
        numbers = random.Random(seed)
        if seed % 5 == 0:
            unit = lower_module(checked(random_program(seed)[0])[0])
        else:
            unit = random_unit(seed, numbers.choice((2, most_blocks)), numbers.choice((4, most_rows)))
        yield chosen(unit[2][-1]), numbers


def wide(many, calls=False):
    """A function in which so many values live at once, over a call if that is wanted."""
    rows = [("in", value, AT) for value in range(1, many)]
    if calls:
        rows.append(("call", 900, "f", (0,), AT))
    rows += [("out", value, AT) for value in range(1, many)]
    return ("f", (), (((0,), tuple(rows), ("return", 0)),))


class LivesTest(unittest.TestCase):
    def lives_by_ways(self, blocks, block, value):
        """Whether some way from the beginning of a block uses a value before it is given."""
        seen = set()
        pile = [block]
        while pile:
            number = pile.pop()
            if number in seen:
                continue
            seen.add(number)
            params, rows, end = blocks[number]
            if value in params:
                continue
            given = False
            for row in rows:
                if value in low_uses(row):
                    return True
                if low_gives(row) == value:
                    given = True
                    break
            if not given:
                if value in low_end_uses(end):
                    return True
                pile += [goal for goal, _ in low_hands(end)]
        return False

    def test_random_functions(self):
        for low, numbers in random_lows(range(150)):
            blocks = low[2]
            table = lives(blocks)
            values = {value for params, rows, _ in blocks for value in list(params) + [low_gives(row) for row in rows]} - {None}
            for number in range(len(blocks)):
                found = tuple(value for value in sorted(values) if self.lives_by_ways(blocks, number, value))
                self.assertEqual(table[number], found)
            self.assertTrue(is_table(blocks, table))
            self.assertEqual(lives([list(block) for block in blocks]), table)
            self.look_at_tables(blocks, table, numbers, sorted(values))

    def look_at_tables(self, blocks, table, numbers, values):
        """Tables with one value less aren't taken; those with one more are if it is told wherever it then must be."""
        for number, row in enumerate(table):
            for value in row:
                less = table[:number] + (tuple(other for other in row if other != value),) + table[number + 1:]
                self.assertFalse(is_table(blocks, less))
        everywhere = tuple(tuple(sorted({*row, 5000})) for row in table)
        self.assertTrue(is_table(blocks, everywhere))
        number, value = numbers.randrange(len(blocks)), numbers.choice(values + [5000])
        more = table[:number] + (tuple(sorted({*table[number], value})),) + table[number + 1:]
        self.assertEqual(is_table(blocks, more), self.is_table_by_rows(blocks, more))

    def is_table_by_rows(self, blocks, table):
        return all(points_of(blocks, number, table)[0] - set(block[0]) <= set(table[number]) for number, block in enumerate(blocks))

    def test_values_that_are_no_table(self):
        self.assertEqual(lives(LOOP), TABLE)
        for thing in (None, 5, (), "abc", list(TABLE), TABLE[:2], TABLE + ((),), ((), (), (0,)), ((), (0,), ()), (None, (0,), (0,)), ((), [0], (0,)),
                      ((), 0, 0), ((), ("0",), (0,)), {0: (), 1: (0,), 2: (0,)}):
            self.assertFalse(is_table(LOOP, thing), thing)
        self.assertTrue(is_table(LOOP, ((9,), (0, 9), (0, 9))))
        self.assertFalse(is_table(LOOP, ((), (0, 9), (0, 9))))


class CheckerTest(unittest.TestCase):
    def spots(self, *told):
        return tuple((value, *spot) for value, spot in enumerate(told))

    def word(self, function, colouring):
        told = wrong_colours(function, colouring)
        if told is None:
            return None
        self.assertIsInstance(told, tuple)
        return told[0]

    def test_form(self):
        right = (TABLE, self.spots(("r", 8), ("r", 9), ("r", 9)))
        self.assertIsNone(wrong_colours(TURN, right))
        for thing in (None, 5, (), [TABLE, right[1]], right[:1], right + (0,), "ab", (TABLE, None), (TABLE, list(right[1])), (TABLE, (None,)), (TABLE, 5)):
            self.assertEqual(self.word(TURN, thing), "form", thing)
        for spot in ((2, "r", 7), (2, "r", 10), (2, "r", 17), (2, "r", 32), (2, "r", 0), (2, "r", -1), (2, "r", True), (2, "r", "8"), (2, "w", -1),
                     (2, "w", 4096), (2, "w", None), (2, "t", 0), (2, "x", 8), (2, None, 8), (2, ["r"], 8), ("2", "r", 8), (True, "r", 8), (None, "r", 8),
                     (-1, "r", 8), [2, "r", 8], (2, "r"), (2, "r", 8, 0), (0, "r", 8), (1, "r", 18)):
            self.assertEqual(self.word(TURN, (TABLE, right[1][:2] + (spot,))), "form", spot)
        self.assertEqual(self.word(TURN, (TABLE, (right[1][1], right[1][0], right[1][2]))), "form")
        for spot in [("r", number) for number in KEPT[1:] + FREE] + [("w", 0), ("w", 4095)]:
            self.assertIsNone(wrong_colours(TURN, (TABLE, self.spots(("r", 8), spot, spot))))

    def test_lives(self):
        spots = self.spots(("r", 8), ("r", 9), ("r", 9))
        for table in (None, 5, (), ((), (), ()), list(TABLE), TABLE[:2], "abc", ((), (0,), (0,), ())):
            self.assertEqual(self.word(TURN, (table, spots)), "lives", table)
        # The form comes first.
        self.assertEqual(self.word(TURN, (None, [])), "form")

    def test_no_spot(self):
        spots = self.spots(("r", 8), ("r", 9), ("r", 9))
        for at in range(3):
            self.assertEqual(self.word(TURN, (TABLE, spots[:at] + spots[at + 1:])), "no spot")
        table = ((9,), (0, 9), (0, 9))
        self.assertEqual(self.word(TURN, (table, spots)), "no spot")
        self.assertIsNone(wrong_colours(TURN, (table, spots + ((9, "w", 0),))))
        self.assertEqual(self.word(TURN, (((), (), ()), spots[:1])), "lives")
        # A value that is given and never used needs one, too.
        function = ("f", (), (((0,), (("in", 1, AT),), ("return", 0)),))
        self.assertEqual(self.word(function, (((),), ((0, "r", 8),))), "no spot")

    def test_shared(self):
        self.assertEqual(self.word(TURN, (TABLE, self.spots(("r", 8), ("r", 8), ("r", 9)))), "shared")
        self.assertEqual(self.word(TURN, (TABLE, self.spots(("r", 8), ("r", 9), ("r", 8)))), "shared")
        # A value that is never used must not take the place of one that lives; what dies there may be replaced.
        function = ("f", (), (((0,), (("in", 1, AT), ("imm", "addi", 2, 0, 1, AT)), ("return", 2)),))
        self.assertEqual(self.word(function, (((),), self.spots(("r", 8), ("r", 8), ("r", 8)))), "shared")
        self.assertIsNone(wrong_colours(function, (((),), self.spots(("r", 8), ("r", 9), ("r", 8)))))
        # Params live with one another, used or not, and with all that lives into the block.
        params = ("f", (), (((0, 1), (), ("go", 1, (0, 0))), ((2, 3), (), ("return", 0))))
        table = ((), (0,))
        self.assertIsNone(wrong_colours(params, (table, self.spots(("r", 8), ("w", 0), ("r", 9), ("r", 18)))))
        for told in ((("r", 8), ("r", 8), ("r", 9), ("r", 18)), (("r", 8), ("r", 9), ("r", 9), ("r", 9)), (("r", 8), ("r", 9), ("r", 8), ("r", 9)),
                     (("w", 3), ("w", 4), ("w", 5), ("w", 3))):
            self.assertEqual(self.word(params, (table, self.spots(*told))), "shared", told)
        # By a table that tells of more, more lives.
        self.assertEqual(self.word(params, (((9,), (0, 9)), self.spots(("r", 8), ("r", 9), ("r", 9), ("r", 18)) + ((9, "r", 18),))), "shared")

    def test_not_kept(self):
        function = ("f", (), (((0, 1), (("call", 2, "f", (0, 1), AT), ("out", 1, AT)), ("return", 2)),))
        for number in FREE:
            self.assertEqual(self.word(function, (((),), self.spots(("r", 8), ("r", number), ("r", 9)))), "not kept")
            # What the call uses as the last one, and what it gives, doesn't live over it.
            self.assertIsNone(wrong_colours(function, (((),), self.spots(("r", number), ("r", 8), ("r", number)))))
        for number in KEPT[:3]:
            self.assertIsNone(wrong_colours(function, (((),), self.spots(("r", 20), ("r", number), ("r", 21)))))
        self.assertIsNone(wrong_colours(function, (((),), self.spots(("r", 28), ("w", 7), ("r", 28)))))

    def test_random_colourings(self):
        words = {}
        for low, numbers in random_lows(range(200)):
            colouring = random_colouring(low, numbers, kept=KEPT[:numbers.randrange(13)], free=FREE[:numbers.randrange(5)])
            self.assertIsNone(wrong_colours(low, colouring))
            table, spots = colouring
            neighbours, over = neighbours_of(low, table)
            for _ in range(20):
                at = numbers.randrange(len(spots))
                value = spots[at][0]
                spot = numbers.choice([("r", number) for number in KEPT[:4] + FREE] + [("w", 0), ("w", 1)] + [other[1:] for other in spots[:4]])
                changed = spots[:at] + ((value, *spot),) + spots[at + 1:]
                by_value = {other: (kind, number) for other, kind, number in changed}
                shares = any(by_value[other] == spot for other in neighbours[value])
                lost = any(spot in [("r", number) for number in FREE] for other, spot in by_value.items() if other in over)
                told = self.word(low, (table, changed))
                self.assertEqual(told is not None, shares or lost)
                self.assertIn(told, [None] + ["shared"] * shares + ["not kept"] * lost)
                words[told] = words.get(told, 0) + 1
        self.assertEqual(len(words), 3, words)

    def test_lists(self):
        self.assertIsNone(wrong_colours(["f", [], [[list(params), [list(row) for row in rows], list(end)] for params, rows, end in LOOP]],
                                        (TABLE, self.spots(("r", 8), ("r", 9), ("r", 9)))))


class ColouringsTest(unittest.TestCase):
    def alive(self, function):
        """The greatest number of values that need unlike spots at one point, by ways gone here."""
        table = table_of(function[2])
        most = 0
        for number, (params, rows, _) in enumerate(function[2]):
            points = points_of(function[2], number, table)
            most = max(most, len(set(params) | set(table[number])))
            for row, behind in zip(rows, points[1:]):
                if low_gives(row) is not None:
                    most = max(most, len(behind | {low_gives(row)}))
        return most

    def look(self, low):
        most = most_alive(low)
        self.assertEqual(most, self.alive(low))
        colouring = colours_of(low)
        self.assertIsNone(wrong_colours(low, colouring))
        if most <= 12:
            self.assertEqual(spills_in(colouring), ())
        for many in range(1, 13):
            colouring = colours_within(low, many)
            self.assertIsNone(wrong_colours(low, colouring))
            registers = {number for _, kind, number in colouring[1] if kind == "r"}
            self.assertLessEqual(registers, set(KEPT[:many]))
            spilled = spills_in(colouring)
            self.assertEqual(spilled, tuple(value for value, kind, _ in colouring[1] if kind == "w"))
            self.assertEqual(spilled == (), most <= many, (most, many))
        return most

    def test_random_functions(self):
        found = {self.look(low) for low, _ in random_lows(range(250), 9, 20)}
        self.assertTrue({1, 2, 3, 4, 5, 6, 7, 8, 12} <= found, found)

    def test_wide_functions(self):
        for many, calls in itertools.product((1, 2, 11, 12, 13, 14, 16, 17, 60), (False, True)):
            low = wide(many, calls)
            self.assertEqual(self.look(low), many + calls)

    def test_example(self):
        self.assertEqual(most_alive(TURN), 2)
        self.assertEqual(spills_in(colours_of(TURN)), ())
        self.assertGreater(len(spills_in(colours_within(TURN, 1))), 0)
        self.assertEqual(spills_in((TABLE, ((0, "w", 3), (1, "r", 8), (2, "w", 0)))), (0, 2))

    def test_a_value_never_used_counts_where_it_is_given(self):
        function = ("f", (), (((0,), (("in", 1, AT),), ("return", 0)),))
        self.assertEqual(most_alive(function), 2)
        self.assertEqual(len(spills_in(colours_within(function, 1))), 1)


class WebsTest(unittest.TestCase):
    """Values that are spilled and handed for one another stand in one word, where they can."""

    NAMES = [one + other for one in "abcefgh" for other in "klmnopqrstuvwxyz"][:90]

    def low_of(self, body):
        text = "module m; int main() { " + "".join("int " + name + " = in(); " for name in self.NAMES) + body + "".join("out(" + name + ");" for name in self.NAMES) + " return 0; }"
        return chosen(lower_module(checked(text)[0])[2][0])

    def look(self, low, moves, words):
        pairs = sum(len(args) for _, _, end in low[2] for _, args in low_hands(end))
        for many in (1, 2, 5, 12):
            colouring = colours_within(low, many)
            self.assertIsNone(wrong_colours(low, colouring))
            self.assertLess(moves_in(low, colouring), moves * (many + 1))
            self.assertLess(max(number for _, kind, number in colouring[1] if kind == "w"), words)
        return pairs

    def test_many_ends_of_loops(self):
        body = "while (in()) {" * 4 + "".join(name + " = " + name + " + 1; if (in()) break;" for name in self.NAMES) + "}" * 4
        self.assertGreater(self.look(self.low_of(body), 400, 100), 8000)

    def test_many_cases(self):
        cases = "".join(f"case {at}: {one} = {other}; break;" for at, (one, other) in enumerate(zip(self.NAMES, self.NAMES[1:])))
        self.assertGreater(self.look(self.low_of("while (in()) { switch (in()) {" + cases + "} }"), 400, 100), 8000)

    def test_loops_one_behind_another(self):
        body = "".join(f"for (int i; i < 9; i = i + 1) {{ {one} = {other} + i; if (in()) {one} = 2; }}" for one, other in zip(self.NAMES, self.NAMES[1:]))
        self.look(self.low_of(body), 400, 110)


if __name__ == "__main__":
    unittest.main()

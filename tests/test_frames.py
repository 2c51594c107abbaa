"""[47], [48]: what is agreed upon, and lines."""

import random
import unittest

from machines import TestMachine
from middlefunctions import WORDS, random_unit
from middleruns import run_middle
from programs import random_program
from randomcolours import FREE, KEPT, random_colouring
from support import checked
from trueimage.choosing import chosen
from trueimage.colourcheck import wrong_colours
from trueimage.colours import colours_of, colours_within
from trueimage.emitrows import lines_of
from trueimage.linking import link
from trueimage.lowering import lower_module
from trueimage.objects import object_of

AT = ("m", 1, 1)
TRAPS = {"must", "deep"}


class LinesTest(unittest.TestCase):
    def look(self, low, colouring):
        """The lines have their forms, places and labels; the answer is the size of the frame."""
        lines, size = lines_of(low, colouring)
        self.assertEqual(size % 16, 0)
        words = [number for _, kind, number in colouring[1] if kind == "w"]
        self.assertGreaterEqual(size, 4 * (len(set(words)) + sum(low[1])))
        labels = [line[1] for line in lines if line[0] == "label"]
        self.assertEqual(len(labels), len(set(labels)))
        self.assertEqual([label for label in labels if label < len(low[2])], list(range(len(low[2]))))
        block, places = -1, []
        for at, line in enumerate(lines):
            if line[0] == "label":
                if line[1] < len(low[2]):
                    self.look_at_block(low, block, places)
                    block, places = line[1], []
            elif line[0] == "word":
                _, instruction, place, patch, trap = line
                places.append((place, trap))
                self.assertEqual(len(instruction), 4)
                self.assertEqual(trap is not None, instruction[0] == "ebreak")
                if patch is not None:
                    self.assertEqual({"high": "lui", "jump": "jal", "limit": "addi"}.get(patch[0], instruction[0]), instruction[0])
                    self.assertTrue(patch[0] != "low" or instruction[0] in ("addi", "lw", "sw"))
                if instruction[0][0] == "b":
                    self.assertEqual((instruction[3], lines[at + 1][0]), (8, "word"))
            elif line[0] == "branch":
                self.assertIn(line[4], labels)
                self.assertEqual(len(line), 6)
                places.append((line[5], None))
            else:
                self.assertEqual((line[0], len(line)), ("jump", 3))
                self.assertIn(line[1], labels)
                places.append((line[2], None))
        self.look_at_block(low, block, places)
        return size

    def look_at_block(self, low, block, places):
        """The words of a block have the places and traps of its rows, one behind another."""
        if block < 0:
            self.assertEqual({place for place, _ in places} - {None}, set())
            return
        _, rows, end = low[2][block]
        told = [(row[-1], row[4] if row[0] == "must" else "stack" if row[0] == "deep" else None) for row in rows]
        told.append((end[-1], end[1] if end[0] == "trap" else None) if end[0] in ("tail", "trap") else (None, None))
        traps = [place_and_trap for place_and_trap in places if place_and_trap[1] is not None]
        self.assertEqual(traps, [one for one in told if one[1] is not None])
        at = 0
        for place, _ in places:
            while at < len(told) and told[at][0] != place:
                at += 1
            self.assertLess(at, len(told), (rows, end, places))

    def test_random_functions(self):
        for seed in range(150):
            numbers = random.Random(seed)
            unit = random_unit(seed, numbers.choice((2, 5))) if seed % 4 else lower_module(checked(random_program(seed)[0])[0])
            for function in unit[2]:
                low = chosen(function)
                self.look(low, colours_of(low))
                self.look(low, colours_within(low, numbers.randrange(1, 4)))
                self.look(low, random_colouring(low, numbers, words=4096))

    def test_lists(self):
        low = chosen(random_unit(5)[2][-1])
        colouring = colours_of(low)
        listed = [low[0], list(low[1]), [[list(params), [list(row) for row in rows], list(end)] for params, rows, end in low[2]]]
        self.assertEqual(list(lines_of(listed, colouring)[0]), list(lines_of(low, colouring)[0]))


class RunsTest(unittest.TestCase):
    """The words do what the rows do, whatever right colouring was chosen, and keep what is agreed upon."""

    def look(self, unit, colourings, numbers, limits=(1, 2, 3, 20), inputs=None, most=3000):
        thing = object_of(unit, colourings)
        endings = []
        for limit in limits:
            told = inputs if inputs is not None else tuple(numbers.choice(WORDS) for _ in range(numbers.choice((0, 2, 9))))
            outputs, ending, steps = run_middle([unit], told, limit, most)
            if ending[0] not in ("on", "astray"):
                machine = TestMachine(link([thing], [], limit, numbers.choice((0, 16, 4096, 2 ** 28))), told)
                again = machine.run(thing[10] * (steps + 1) + 1)
                self.assertEqual(again[:2], (outputs, ending), unit[2][-1])
                self.assertLessEqual(again[2], thing[10] * (steps + 1))
                endings.append(ending[1] if ending[0] == "trap" else "answer")
        return endings

    def colourings_of(self, unit, numbers, words):
        found = {}
        for function in unit[2]:
            low = chosen(function)
            kept, free = KEPT[:numbers.randrange(13)], FREE[:numbers.randrange(5)]
            found[function[0]] = random_colouring(low, numbers, kept, free, words, numbers.choice((0, 0.2, 1)))
            self.assertIsNone(wrong_colours(low, found[function[0]]))
        return found

    def test_random_units(self):
        endings = {}
        for seed in range(300):
            numbers = random.Random(seed)
            unit = lower_module(checked(random_program(seed)[0])[0]) if seed % 4 == 0 else random_unit(seed, numbers.choice((2, 5, 9)), tame=True)
            for ending in self.look(unit, self.colourings_of(unit, numbers, numbers.choice((60, 700, 4096))), numbers):
                endings[ending] = endings.get(ending, 0) + 1
        self.assertEqual(sorted(endings), ["answer", "bounds", "input", "stack", "told", "zero"])

    def test_slots_up_to_the_greatest(self):
        numbers = random.Random(1)
        for slots in ((1,), (6,), (7,), (256,), (1, 256, 3), (256, 256), (256,) * 8, (256,) * 20, (255,) * 9 + (1,)):
            rows = [("in", 0, AT)]
            for number, words in enumerate(slots):
                base = 10 * number + 10
                rows += [("address", base, number, AT), ("load", base + 1, base, 0, AT), ("out", base + 1, AT), ("load", base + 2, base, words - 1, AT),
                         ("out", base + 2, AT), ("store", base, 0, 0, AT), ("store", base, words - 1, 0, AT)]
            again = [("address", 1000 + number, number, AT) for number in range(len(slots))]
            again += [("load", 2000 + number, 1000 + number, slots[number] // 2, AT) for number in range(len(slots))]
            again += [("out", 2000 + number, AT) for number in range(len(slots))]
            # It calls itself, so that its words come anew where others were.
            call = (("const", 1, 1, AT), ("op", 2, "sub", 0, 1, AT), ("call", 3, "f", (2,), 1, AT))
            body = (((0,), tuple(rows[1:]), ("if", 0, 1, (), 2, ())), ((), call, ("go", 2, ())), ((), tuple(again), ("return", 0)))
            main = ("main", "int()", (), (((), (("in", 0, AT), ("call", 1, "f", (0,), 1, AT), ("call", 2, "f", (0,), 1, AT)), ("return", 2)),))
            unit = ("m", (), (("f", "int(int)", slots, body), main), ())
            for words in (40, 4096):
                self.assertEqual(self.look(unit, self.colourings_of(unit, numbers, words), numbers, (5, 3), (3,), 100000), ["answer", "stack"])
            self.look(unit, {}, numbers, (5, 4), (3,), 100000)

    def test_many_args_and_moves(self):
        numbers = random.Random(2)
        seven = ("seven", "int(int,int,int,int,int,int,int)", (), (
            (tuple(range(7)), tuple(("out", at, AT) for at in (6, 0, 5, 1, 4, 2, 3)), ("return", 3)),))
        rows = [("in", at, AT) for at in range(7)] + [("call", 9, "seven", (6, 5, 4, 3, 2, 1, 0), 1, AT), ("const", 10, 0, AT)]
        turn = ((11, 12, 13, 14, 15, 16), (("op", 17, "add", 11, 14, AT), ("out", 17, AT), ("const", 19, 1, AT), ("op", 18, "sub", 16, 19, AT)),
                ("if", 16, 1, (12, 13, 11, 15, 14, 18), 2, (15,)))
        last = ((20,), (), ("tail", "seven", (20, 1, 20, 2, 10, 0, 9), 1, AT))
        main = ("main", "int()", (), (((), tuple(rows), ("go", 1, (1, 2, 3, 4, 10, 5))), turn, last))
        unit = ("m", (), (seven, main), ())
        for _ in range(60):
            self.look(unit, self.colourings_of(unit, numbers, 4096), numbers, (3,), (9, 8, 7, 6, 5, 4, 3))


if __name__ == "__main__":
    unittest.main()

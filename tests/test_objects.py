"""[55]: objects."""

import random
import unittest

from machines import run_machine
from middlefunctions import CALLEES, GLOBALS, WORDS, random_unit
from middleruns import run_middle
from programs import random_program
from randomcolours import random_colouring
from support import checked
from trueimage.assembling import assembled
from trueimage.choosing import chosen
from trueimage.colours import colours_of, colours_within
from trueimage.emitrows import lines_of
from trueimage.errors import BadColours, BadUnit
from trueimage.forms import decode
from trueimage.inlining import unit_with_tails
from trueimage.linking import link
from trueimage.lowering import lower_module
from trueimage.objects import given_by, object_of
from trueimage.shortlines import shortened

AT = ("m", 1, 1)
WITH_NUMBER = ("addi", "lw", "sw")


def units(seeds):
    for seed in seeds:
        unit = lower_module(checked(random_program(seed)[0])[0]) if seed % 3 == 0 else random_unit(seed, random.Random(seed).choice((2, 6)))
        yield unit_with_tails(unit) if seed % 2 else unit


class ObjectTest(unittest.TestCase):
    def look(self, unit, colourings=None):
        """Each part of the object of a unit is as told."""
        thing = object_of(unit, colourings)
        self.assertEqual(len(thing), 11)
        name, words, things, names, wants, patches, places, traps, frames, calls, pace = thing
        self.assertEqual((name, things, wants), (unit[0], unit[1], unit[3]))
        self.assertTrue(all(isinstance(part, tuple) for part in (words, things, names, wants, patches, places, traps, frames, calls)))
        self.assertEqual([told[:3] for told in names], [(function[0], function[1], len(function[3][0][0])) for function in unit[2]])
        starts = [told[3] for told in names]
        self.assertEqual(starts, sorted(set(starts)))
        self.assertTrue(all(start < len(words) for start in starts))
        self.assertEqual(starts[:1], [0] if starts else [])
        self.assertEqual(len(places), len(words))
        self.assertEqual([told[0] for told in frames], [function[0] for function in unit[2]])
        self.assertTrue(all(size % 16 == 0 and 0 <= size <= 2 ** 24 for _, size in frames))
        self.assertEqual(calls, self.calls_of(unit))
        self.assertGreaterEqual(pace, 8)
        self.look_at_patches(thing, unit)
        self.look_at_traps(thing)
        self.assertEqual(given_by(thing), {
            **{told[0]: (told[1], -1) for told in unit[1]}, **{told[0]: (told[1], len(told[3][0][0])) for told in unit[2]}})
        return thing

    def calls_of(self, unit):
        found = set()
        for name, _, _, blocks in unit[2]:
            come_to, pile = {0}, [0]
            while pile:
                end = blocks[pile.pop()][2]
                for goal in {"go": end[1:2], "if": (end[2:3] + end[4:5])}.get(end[0], ()):
                    if goal not in come_to:
                        come_to.add(goal)
                        pile.append(goal)
            for number in come_to:
                found |= {(name, row[2], row[4], False) for row in blocks[number][1] if row[0] == "call"}
                if blocks[number][2][0] == "tail":
                    found.add((name, blocks[number][2][1], blocks[number][2][3], True))
        return tuple(sorted(found))

    def look_at_patches(self, thing, unit):
        patched = [patch[0] for patch in thing[5]]
        self.assertEqual(patched, sorted(set(patched)))
        known = set(given_by(thing)) | {want[0] for want in thing[4]}
        for at, kind, name, _ in thing[5]:
            instruction = decode(thing[1][at])[0]
            self.assertTrue(instruction == {"high": "lui", "jump": "jal", "limit": "addi"}.get(kind) or kind == "low" and instruction in WITH_NUMBER)
            self.assertTrue(name == "" if kind == "limit" else name in known)
        for at, word in enumerate(thing[1]):
            instruction = decode(word)
            self.assertIsNotNone(instruction)
            if instruction[0] == "jal" and at not in patched:
                self.assertEqual(instruction[1], 0)

    def look_at_traps(self, thing):
        places = [at for at, _ in thing[7]]
        self.assertEqual(places, [at for at, word in enumerate(thing[1]) if decode(word) == ("ebreak", 0, 0, 0)])
        for at, kind in thing[7]:
            self.assertIn(kind, ("bounds", "zero", "told", "stack"))
            self.assertIsNotNone(thing[6][at])

    def test_random_units(self):
        for unit in units(range(150)):
            self.look(unit)
            self.look(unit, {})

    def test_places_are_those_of_rows(self):
        for unit in units(range(60)):
            thing = object_of(unit)
            known = {row[-1] for function in unit[2] for _, rows, _ in function[3] for row in rows}
            known |= {end[-1] for function in unit[2] for _, _, end in function[3] if end[0] in ("tail", "trap")}
            self.assertLessEqual(set(thing[6]) - {None}, known)

    def test_one_function(self):
        rows = (("in", 0, ("m", 2, 1)), ("address", 1, "g", ("m", 3, 1)), ("load", 2, 1, 1, ("m", 3, 5)), ("check", 0, "zero", ("m", 4, 3)),
                ("out", 2, ("m", 5, 1)))
        unit = ("m", (("g", "int[2]", 2, (5,)),), (("main", "int()", (), (((), rows, ("return", 0)),)),), (("far", "int()", 0),))
        thing = self.look(unit)
        self.assertEqual([thing[0], thing[2], thing[3], thing[4], thing[9]], ["m", unit[1], (("main", "int()", 0, 0),), unit[3], ()])
        self.assertEqual([(kind, name, behind) for _, kind, name, behind in thing[5]], [("high", "g", 4), ("low", "g", 4)])
        self.assertEqual([kind for _, kind in thing[7]], ["zero"])
        self.assertEqual(thing[6][thing[7][0][0]], ("m", 4, 3))

    def test_wrong_units(self):
        right = random_unit(1)
        for unit in (None, (), 5, list(right), right[:3], right[:2] + ((),) + ((("f",),),), ("m", (), (("f", "int()", (), ()),), ()),
                     ("m", (), (CALLEES[0], CALLEES[0]), ())):
            for colourings in (None, {}, {"f": None}):
                with self.assertRaises(BadUnit):
                    object_of(unit, colourings)

    def test_colourings(self):
        for seed in range(40):
            numbers = random.Random(seed)
            unit = random_unit(seed, tame=True)
            colourings = {}
            for function in unit[2]:
                if numbers.random() < 0.6:
                    colourings[function[0]] = random_colouring(chosen(function), numbers)
            thing = self.look(unit, colourings)
            for function in unit[2]:
                # The registers of a colouring that is told are those in the words.
                low = chosen(function)
                lines, size = lines_of(low, colourings.get(function[0], colours_of(low)))
                self.assertEqual(dict(thing[8])[function[0]], size)

    def test_colourings_that_are_not_right(self):
        unit = ("m", GLOBALS, CALLEES, ())
        lows = {function[0]: chosen(function) for function in CALLEES}
        right = {name: colours_of(low) for name, low in lows.items()}
        object_of(unit, right)
        for name in lows:
            table, spots = right[name]
            same = tuple((value, "r", 8) for value, _, _ in spots)
            for wrong, word in ((None, "form"), ((table, list(spots)), "form"), ((table, spots[:-1] + ((spots[-1][0], "r", 10),)), "form"),
                                ((None, spots), "lives"), (((),) * 9, "form"), ((((),) * 9, spots), "lives"), ((table, spots[1:]), "no spot"),
                                ((table, ()), "no spot"), ((table, same), "shared")):
                with self.assertRaises(BadColours) as caught:
                    object_of(unit, {**right, name: wrong})
                self.assertEqual((caught.exception.name, caught.exception.why), (name, word))
        # The first one that isn't right is told, and names of nobody are passed over.
        with self.assertRaises(BadColours) as caught:
            object_of(unit, {"down": None, "put": (None, ())})
        self.assertEqual((caught.exception.name, caught.exception.why), ("put", "lives"))
        object_of(unit, {"nobody": None})
        with self.assertRaises(BadUnit):
            object_of(unit + ((),), {"down": None})

    def test_pace(self):
        for seed in range(60):
            numbers = random.Random(seed)
            unit = random_unit(seed, tame=True)
            colourings = {function[0]: colours_within(chosen(function), numbers.randrange(1, 4)) for function in unit[2]}
            thing = object_of(unit, colourings)
            self.assertLessEqual(thing[10], max(8, len(thing[1])))
            most = []
            for function in unit[2]:
                lines, _ = lines_of(chosen(function), colourings[function[0]])
                made = assembled(shortened(lines))
                starts = sorted(place for label, place in made.labels.items() if label < len(function[3])) + [len(made.words)]
                most.append(max(behind - start for start, behind in zip(starts, starts[1:])))
            # What begins a function may count to its first block.
            self.assertGreaterEqual(thing[10], max(most + [8]))
            inputs = tuple(numbers.choice(WORDS) for _ in range(5))
            outputs, ending, steps = run_middle([unit], inputs, 5, 2000)
            if ending != ("on",):
                told = run_machine(link([thing], [], 5), inputs, thing[10] * (steps + 1) + 1)
                self.assertEqual(told[:2], (outputs, ending))
                self.assertLessEqual(told[2], thing[10] * (steps + 1))


if __name__ == "__main__":
    unittest.main()

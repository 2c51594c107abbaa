"""[62]: the debugger."""

import random
import unittest

from images import image_of
from middlefunctions import WORDS, random_unit
from programs import random_program
from support import checked
from trueimage.debugging import counts, deepest, image_listing, name_at, open_calls, stops_at, trail, word_told
from trueimage.forms import decode
from trueimage.inlining import unit_with_tails
from trueimage.linking import data_start, link, stack_start
from trueimage.listing import word_text
from trueimage.lowering import lower_module
from trueimage.machine import Machine, run_image
from trueimage.objects import object_of
from trueimage.whole import built

AT = ("m", 1, 1)
PLAIN = (0, False, (), 4)


def images(seeds):
    """Images of random programs, with inputs."""
    for seed in seeds:
        numbers = random.Random(seed)
        unit = lower_module(checked(random_program(seed)[0])[0]) if seed % 2 == 0 else random_unit(seed, 4, tame=True)
        if seed % 3 == 0:
            unit = unit_with_tails(unit)
        inputs = tuple(numbers.choice(WORDS) for _ in range(numbers.choice((0, 2, 9))))
        yield numbers, link([object_of(unit)], (), numbers.choice((1, 2, 3, 20)), numbers.choice((0, 4096))), inputs


class Steps:
    """A run stepped by the tests themselves: what is seen ahead of each step, and behind the last one."""

    def __init__(self, image, inputs, most):
        self.image = image
        machine = Machine(image, inputs)
        self.rows = []
        self.calls = [self.open_in(machine)]
        stack = []
        while machine.ended is None and machine.steps < most:
            pc = machine.pc
            at = (pc - image[8]) // 4
            word = image[0][at] if 0 <= at < len(image[0]) and pc % 4 == 0 else None
            instruction = None if word is None else decode(word)
            row = (machine.steps, pc, image[4][at] if instruction is not None else None, machine.registers[2])
            before = machine.steps
            machine.step()
            if machine.steps > before:
                self.rows.append(row)
                self.follow(stack, instruction, machine.pc)
                self.calls.append(tuple(stack))
        self.machine = machine

    def open_in(self, machine):
        return ()

    def follow(self, stack, instruction, pc):
        """Calls push, returns pop, and last calls change the function that is open."""
        name, first, second = instruction[:3]
        if name == "jal" and first == 1:
            stack.append(self.function(pc))
        elif (name, first, second) == ("jalr", 0, 1):
            stack.pop()
        elif name == "jal" and stack and self.function(pc) is not None:
            stack[-1] = self.function(pc)

    def function(self, address):
        end = self.image[8] + 4 * len(self.image[0])
        found = [(start, name) for name, start in self.image[6] if start <= address < end]
        return max(found)[1] if found else None


class RandomTest(unittest.TestCase):
    def test_beside_a_machine_stepped_here(self):
        kinds = set()
        for numbers, image, inputs in images(range(120)):
            most = numbers.choice((0, 1, 5, 6, 40, 400))
            steps = Steps(image, inputs, most)
            places = [place for _, _, place, _ in steps.rows]
            there = [place for place in places if place is not None]
            once = [place for at, place in enumerate(there) if at == 0 or there[at - 1] != place]
            self.assertEqual(trail(image, inputs, most), once)
            told = counts(image, inputs, most)
            self.assertEqual(list(told.items()), [(place, there.count(place)) for place in sorted(set(there))])
            self.assertEqual(sum(told.values()), len(there))
            for place in numbers.sample(sorted(set(there)), min(3, len(set(there)))) + [("nowhere", 1, 1)]:
                stops = [row[0] for at, row in enumerate(steps.rows) if row[2] == place and (at == 0 or places[at - 1] != place)]
                self.assertEqual(stops_at(image, inputs, place, most), stops)
            used = [stack_start(image) + image[2] - sp for _, pc, _, sp in steps.rows if pc >= image[8] + 24]
            self.assertEqual(deepest(image, inputs, most), max(used + [0]))
            self.assertLessEqual(deepest(image, inputs, most), image[2])
            for count in {0, 1, 3, 4, 5, len(steps.rows) // 2, len(steps.rows)}:
                if count < len(steps.calls):
                    self.assertEqual(open_calls(image, inputs, count), steps.calls[count], count)
                    kinds.add(len(steps.calls[count]))
            self.assertEqual(open_calls(image, inputs, len(steps.rows)), steps.calls[-1])
            if steps.machine.ended is not None:
                # Behind the end nothing changes any more.
                self.assertEqual(open_calls(image, inputs, most + 999), steps.calls[-1])
                self.assertEqual(trail(image, inputs, most + 999), once)
        self.assertLessEqual({0, 1, 2}, kinds)

    def test_words_of_globals(self):
        for numbers, image, inputs in images(range(80)):
            steps = numbers.choice((0, 3, 50, 300, 100000))
            machine = Machine(image, inputs)
            while machine.ended is None and machine.steps < min(steps, 2000):
                machine.step()
            for name, address in image[6]:
                if address >= data_start(image):
                    ends = [other for _, other in image[6] if other > address] + [data_start(image) + 4 * len(image[1])]
                    for at in range((min(ends) - address) // 4):
                        words, place = machine.field_at(address + 4 * at)
                        self.assertEqual(word_told(image, inputs, min(steps, 2000), name, at), words[place])

    def test_names_and_listings(self):
        for _, image, _ in images(range(60)):
            base, words = image[8], image[0]
            end = base + 4 * len(words)
            functions = sorted((address, name) for name, address in image[6] if address < end)
            lines = image_listing(image)
            self.assertEqual(len(lines), len(words) + len(functions))
            expected = []
            here = None
            for at, word in enumerate(words):
                address = base + 4 * at
                for start, name in functions:
                    if start == address:
                        here = name
                        expected.append(name + ":")
                expected.append(f"  {address}: {word_text(word)}")
                self.assertEqual(name_at(image, address), here)
            self.assertEqual(lines, expected)
            for address in (base - 4, 0, end, end + 4, data_start(image), stack_start(image), 2 ** 32 - 4, -4):
                if not base <= address < end:
                    self.assertIsNone(name_at(image, address))


class HandTest(unittest.TestCase):
    TEXT = ("module m; int g[3] = {5, 6}; int down(int x) { if (x == 0) return 7; g[2] = x; return down(x - 1) + 1; }\n"
            "int last(int x) { if (x == 0) return down(2);\n return last(x - 1); } int main() { out(g[1]); g[0] = last(3); return g[in()]; }")

    def test_calls(self):
        image, _ = built([self.TEXT], (0, False, (), 3), 20)
        seen = []
        steps = 0
        while not seen or seen[-1] != () or len(seen) < 3:
            told = open_calls(image, (0,), steps)
            if seen[-1:] != [told]:
                seen.append(told)
            steps += 1
        lasts = [("main",) + ("last",) * many for many in range(1, 5)]
        downs = [lasts[-1] + ("down",) * many for many in range(1, 4)]
        ways = [(), ("main",)] + lasts + downs
        self.assertEqual(seen, ways + ways[-2::-1])

    def test_last_calls(self):
        image, _ = built([self.TEXT], (0, True, (), 3), 20)
        seen = {open_calls(image, (0,), steps) for steps in range(run_image(image, (0,), 9999)[2] + 1)}
        self.assertEqual(seen, {(), ("main",), ("main", "last"), ("main", "down"), ("main", "down", "down"), ("main", "down", "down", "down")})

    def test_trails(self):
        image, _ = built([self.TEXT], PLAIN, 20)
        told = trail(image, (9,), 99999)
        self.assertEqual(told[-1], run_image(image, (9,), 99999)[1][2])
        self.assertEqual(trail(image, (9,), 0), [])
        self.assertEqual(trail(image, (9,), 5), [])
        self.assertNotIn(None, told)
        self.assertTrue(all(one != other for one, other in zip(told, told[1:])))
        self.assertEqual(sorted(set(told)), list(counts(image, (9,), 99999)))

    def test_stops(self):
        image, _ = built([self.TEXT], PLAIN, 20)
        place = ("m", 3, self.TEXT.split("\n")[2].index("last(x - 1)") + 1)
        stops = stops_at(image, (0,), place, 99999)
        # Ahead of each call, and when its answer is there.
        self.assertEqual(len(stops), 6)
        for steps in stops:
            machine = Machine(image, (0,))
            machine.go(steps)
            self.assertEqual(image[4][(machine.pc - image[8]) // 4], place)
        self.assertEqual(stops_at(image, (0,), place, stops[1]), stops[:1])
        self.assertEqual(stops_at(image, (0,), place, stops[1] + 1), stops[:2])
        for other in (("m", 9, 9), ("n", 1, 1), None):
            if other is not None:
                self.assertEqual(stops_at(image, (0,), other, 99999), [])

    def test_words(self):
        image, _ = built([self.TEXT], PLAIN, 20)
        self.assertEqual([word_told(image, (0,), 0, "g", at) for at in range(3)], [5, 6, 0])
        self.assertEqual([word_told(image, (0,), 99999, "g", at) for at in range(3)], [9, 6, 1])
        told = [word_told(image, (0,), steps, "g", 2) for steps in range(0, 400)]
        self.assertEqual([word for at, word in enumerate(told) if at == 0 or told[at - 1] != word], [0, 2, 1])

    def test_deepest(self):
        for tails in (False, True):
            image, _ = built([self.TEXT], (0, tails, (), 3), 20)
            told = [deepest(image, (0,), most) for most in (0, 4, 5, 30, 60, 99999)]
            self.assertEqual(told, sorted(told))
            self.assertEqual(told[:2], [0, 0])
            self.assertTrue(0 < told[-1] <= image[2])

    def test_places_ahead_of_which_none_is(self):
        # A row of the same place, with a word without a place between.
        nop = ("addi", 0, 0, 0)
        image = image_of([nop] * 7 + [("addi", 17, 0, 0), ("ecall", 0, 0, 0)], places=(AT, AT, None, AT, ("m", 2, 2), AT, AT, None, None))
        self.assertEqual(trail(image, (), 99), [AT, ("m", 2, 2), AT])
        self.assertEqual(counts(image, (), 99), {AT: 5, ("m", 2, 2): 1})
        self.assertIn(stops_at(image, (), AT, 99), ([0, 3, 5], [3, 5]))
        self.assertEqual(stops_at(image, (), ("m", 2, 2), 99), [4])
        self.assertEqual(counts(image, (), 4), {AT: 3})
        self.assertEqual(trail(image, (), 5), [AT, ("m", 2, 2)])

    def test_runs_that_go_astray(self):
        nop = ("addi", 0, 0, 0)
        image = image_of([nop, ("jal", 0, 400, 0)])
        self.assertEqual(trail(image, (), 99), [("m", 1, 1), ("m", 2, 1)])
        self.assertEqual(counts(image, (), 99), {("m", 1, 1): 1, ("m", 2, 1): 1})
        self.assertEqual(open_calls(image, (), 99), ())
        self.assertEqual(name_at(image, 4096), None)
        self.assertEqual(image_listing(image), ["  4096: addi zero, zero, 0", "  4100: jal zero, 400"])

    def test_the_same_again(self):
        image, _ = built([self.TEXT], PLAIN, 20)
        for told in (lambda: trail(image, (0,), 200), lambda: counts(image, [0], 200), lambda: stops_at(image, (0,), AT, 200), lambda: open_calls(image, (0,), 60),
                     lambda: image_listing(image), lambda: deepest(image, (0,), 200)):
            self.assertEqual(told(), told())


if __name__ == "__main__":
    unittest.main()

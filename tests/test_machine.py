"""[60], [61]: the machine, and the ready machine, which does the same."""

import random
import unittest

from images import image_of, image_of_words, number_made
from lowruns import BRANCHES, IMMS, THREES
from machines import run_machine
from middlefunctions import WORDS, random_unit
from middleruns import run_middle
from programs import random_program
from support import checked
from trueimage.forms import encode
from trueimage.linking import data_start, link, stack_start
from trueimage.lowering import lower_module
from trueimage.machine import Machine, run_image
from trueimage.objects import object_of
from trueimage.readymachine import ReadyMachine, run_ready

TWO32 = 2 ** 32
BOUNDS = (0, 1, 2, 7, 31, 32, 33, 2 ** 16, 2 ** 31 - 1, 2 ** 31, 2 ** 31 + 1, TWO32 - 2, TWO32 - 1, TWO32 - 7)
NOP = ("addi", 0, 0, 0)
MACHINES = ((Machine, run_image), (ReadyMachine, run_ready))


class MachineTest(unittest.TestCase):
    """Each test is made for both machines."""

    def both(self, image, inputs=(), most=99):
        told = run_image(image, inputs, most)
        self.assertEqual(run_ready(image, inputs, most), told)
        return told

    def after(self, image, registers, steps=1, inputs=()):
        """The machine behind so many steps, from registers that are told."""
        found = []
        for kind, _ in MACHINES:
            machine = kind(image, inputs)
            for number, word in registers.items():
                machine.registers[number] = word
            for _ in range(steps):
                machine.step()
            found.append((machine.pc, list(machine.registers), list(machine.outputs), machine.steps, machine.ended))
        self.assertEqual(found[0], found[1])
        return machine

    def one(self, instruction, registers, goal):
        """What one instruction puts into a register."""
        machine = self.after(image_of([instruction]), registers)
        self.assertEqual((machine.pc, machine.steps, machine.ended), (4100, 1, None))
        for number, word in enumerate(machine.registers):
            if number != goal:
                self.assertEqual(word, registers.get(number, 0))
        return machine.registers[goal]

    def test_beginning(self):
        for kind, _ in MACHINES:
            for base in (0, 16, 4096, 2 ** 28):
                machine = kind(image_of([NOP], base=base), (5,))
                self.assertEqual((machine.pc, machine.registers, machine.outputs, machine.steps, machine.ended), (base, [0] * 32, [], 0, None))
                self.assertEqual(set(vars(machine)) & {"pc", "registers", "outputs", "steps", "ended"}, {"pc", "registers", "outputs", "steps", "ended"})
            for method in ("step", "go", "field_at"):
                self.assertIn(method, vars(kind))

    def test_three_registers(self):
        for name, work in THREES.items():
            for one in BOUNDS:
                for other in BOUNDS:
                    self.assertEqual(self.one((name, 7, 5, 6), {5: one, 6: other}, 7), work(one, other), (name, one, other))
                self.assertEqual(self.one((name, 5, 5, 5), {5: one}, 5), work(one, one))
        # The least word divided by -1, and divisions by 0, by hand.
        for name, one, other, word in (("div", 2 ** 31, TWO32 - 1, 2 ** 31), ("rem", 2 ** 31, TWO32 - 1, 0), ("div", 5, 0, TWO32 - 1), ("rem", TWO32 - 5, 0, TWO32 - 5),
                                       ("divu", 5, 0, TWO32 - 1), ("remu", 5, 0, 5), ("mulh", 2 ** 31, 2 ** 31, 2 ** 30), ("mulhu", TWO32 - 1, TWO32 - 1, TWO32 - 2),
                                       ("mulhsu", TWO32 - 1, TWO32 - 1, TWO32 - 1), ("sll", 1, 32, 1), ("srl", 2 ** 31, 63, 1), ("sra", 2 ** 31, 31, TWO32 - 1),
                                       ("slt", 2 ** 31, 0, 1), ("sltu", 2 ** 31, 0, 0)):
            self.assertEqual(self.one((name, 7, 5, 6), {5: one, 6: other}, 7), word, name)

    def test_numbers(self):
        for name, three in IMMS.items():
            for number in (0, 1, 30, 31) if three in ("sll", "srl", "sra") else (-2048, -1, 0, 1, 2047):
                for one in BOUNDS:
                    self.assertEqual(self.one((name, 7, 5, number), {5: one}, 7), THREES[three](one, number % TWO32), (name, one, number))

    def test_upper_numbers(self):
        for number in (0, 1, 2 ** 19, 2 ** 20 - 1):
            self.assertEqual(self.one(("lui", 7, number, 0), {}, 7), number << 12)
            self.assertEqual(self.one(("auipc", 7, number, 0), {}, 7), (4096 + (number << 12)) % TWO32)

    def test_register_0(self):
        image = image_of([("addi", 0, 0, 5), ("lui", 0, 5, 0), ("auipc", 0, 5, 0), ("add", 0, 5, 5), ("lw", 0, 6, 0), ("jal", 0, 4, 0), ("jalr", 0, 7, 0), NOP], (9,))
        registers = {5: 3, 6: data_start(image), 7: 4096 + 28}
        for steps in range(1, 9):
            machine = self.after(image, registers, steps)
            self.assertEqual((machine.registers[0], machine.steps), (0, steps))
        self.assertEqual(machine.pc, 4096 + 32)

    def test_loads(self):
        data = (0x80c2a5ff, 0x01020304, TWO32 - 1)
        for name, many, signed in (("lb", 1, True), ("lbu", 1, False), ("lh", 2, True), ("lhu", 2, False), ("lw", 4, True)):
            image = image_of([(name, 7, 5, -3)], data, 16)
            bytes_told = b"".join(word.to_bytes(4, "little") for word in data)
            for at in range(12):
                registers = {5: data_start(image) + at + 3}
                if at % many == 0:
                    word = int.from_bytes(bytes_told[at:at + many], "little", signed=signed) % TWO32
                    self.assertEqual(self.after(image, registers).registers[7], word, (name, at))
                else:
                    self.astray(image, registers)
            for at in (0, many, 16 - many):
                self.assertEqual(self.after(image, {5: stack_start(image) + at + 3, 7: 5}).registers[7], 0)
            for address in (0, 4096, data_start(image) - many, data_start(image) + 12, stack_start(image) - many,
                            stack_start(image) + 16, TWO32 - many, TWO32 - 1):
                self.astray(image, {5: (address + 3) % TWO32})

    def test_stores(self):
        word = 0x89abcdef
        for name, many in (("sb", 1), ("sh", 2), ("sw", 4)):
            image = image_of([(name, 5, 6, 2)], (0x11223344, 0x55667788), 24)
            for start, words in ((data_start(image), [0x11223344, 0x55667788]), (stack_start(image), [0] * 6)):
                for at in range(4 * len(words)):
                    registers = {5: start + at - 2, 6: word}
                    if at % many != 0:
                        self.astray(image, registers)
                        continue
                    machine = self.after(image, registers)
                    told = bytearray(b"".join(one.to_bytes(4, "little") for one in words))
                    told[at:at + many] = (word % 2 ** (8 * many)).to_bytes(many, "little")
                    found = [machine.field_at(start + 4 * number) for number in range(len(words))]
                    self.assertEqual([one[0][one[1]] for one in found], [int.from_bytes(told[4 * number:4 * number + 4], "little") for number in range(len(words))])
            for address in (0, 4096, data_start(image) - many, data_start(image) + 8, stack_start(image) + 24, TWO32 - many):
                self.astray(image, {5: (address - 2) % TWO32})

    def astray(self, image, registers):
        machine = self.after(image, registers)
        self.assertEqual((machine.ended, machine.pc, machine.steps), (("astray", 4096), 4096, 1))
        for number, word in enumerate(machine.registers):
            self.assertEqual(word, registers.get(number, 0))

    def test_stores_are_seen_by_loads(self):
        image = image_of([("sb", 5, 6, 1), ("sh", 5, 6, 2), ("lw", 7, 5, 0), ("lbu", 8, 5, 1), ("lh", 9, 5, 2)], (0x11223344,))
        machine = self.after(image, {5: data_start(image), 6: 0xfffe9abc}, 5)
        self.assertEqual(machine.registers[7:10], [0x9abcbc44, 0xbc, 0xffff9abc])
        self.assertEqual(image[1], (0x11223344,))

    def test_branches(self):
        for name, is_taken in BRANCHES.items():
            for one in BOUNDS:
                for other in BOUNDS:
                    for distance in (-4096, -4, 2, 6, 4094):
                        machine = self.after(image_of([(name, 5, 6, distance)]), {5: one, 6: other})
                        self.assertEqual((machine.pc, machine.steps, machine.ended), (4096 + (distance if is_taken(one, other) else 4), 1, None))

    def test_jumps(self):
        for distance in (-2 ** 20, -4096, -2, 0, 2, 4, 2 ** 20 - 2):
            for goal in (0, 1, 5):
                machine = self.after(image_of([("jal", goal, distance, 0)]), {})
                self.assertEqual((machine.pc, machine.registers[goal]), ((4096 + distance) % TWO32, 4100 if goal else 0))
        for start, number, target in ((4100, 0, 4100), (4100, -1, 4098), (4101, 0, 4100), (0, -2, TWO32 - 2), (TWO32 - 1, 2, 0), (5, 2047, 2052)):
            for goal in (0, 1, 5):
                machine = self.after(image_of([("jalr", goal, 5, number)]), {5: start})
                self.assertEqual((machine.pc, machine.ended), (target, None))
                self.assertEqual(machine.registers[goal], 4100 if goal else 0)

    def test_places_where_no_word_is(self):
        # It is done, and the next step goes astray there without being counted.
        for distance in (-4, 8, 2, 6, -4096, 2 ** 19):
            image = image_of([("jal", 0, distance, 0), NOP])
            self.assertEqual(self.both(image, (), 9), ((), ("astray", (4096 + distance) % TWO32), 1), distance)
            self.assertEqual(self.both(image, (), 1), ((), ("on",), 1))
        self.assertEqual(self.both(image_of([NOP, NOP])), ((), ("astray", 4104), 2))
        self.assertEqual(self.both(image_of([])), ((), ("astray", 4096), 0))
        for word in (0, TWO32 - 1, 0x0000100f):
            image = image_of_words([encode(NOP), word, encode(NOP)])
            self.assertEqual(self.both(image), ((), ("astray", 4100), 1))
            self.assertEqual(self.both(image, (), 0), ((), ("on",), 0))
        # A store into code is outside of memory.
        self.assertEqual(self.both(image_of([("sw", 0, 0, 0), NOP], base=0)), ((), ("astray", 0), 1))

    def test_ecalls(self):
        rows = [("addi", 17, 0, 3), ("ecall", 0, 0, 0), ("addi", 17, 0, 1), ("ecall", 0, 0, 0), ("addi", 17, 0, 2), ("ecall", 0, 0, 0), ("addi", 17, 0, 1),
                ("ecall", 0, 0, 0), ("addi", 17, 0, 0), ("ecall", 0, 0, 0)]
        self.assertEqual(self.both(image_of(rows), (TWO32 - 1,)), ((1, TWO32 - 1), ("answer", TWO32 - 1), 10))
        self.assertEqual(self.both(image_of(rows), [7, 8]), ((1, 7), ("answer", 7), 10))
        self.assertEqual(self.both(image_of(rows)), ((0,), ("trap", "input", ("m", 6, 1)), 6))
        self.assertEqual(self.both(image_of(rows, places=[None] * 10)), ((0,), ("trap", "input", None), 6))
        for number in (4, 5, 93, 2047):
            self.assertEqual(self.both(image_of([("addi", 17, 0, number), ("ecall", 0, 0, 0), NOP])), ((), ("astray", 4100), 2))
        for number in (2 ** 31, TWO32 - 1, TWO32 - 4):
            machine = self.after(image_of([("ecall", 0, 0, 0)]), {17: number})
            self.assertEqual((machine.ended, machine.pc, machine.steps), (("astray", 4096), 4096, 1))

    def test_ecalls_change_register_10_alone(self):
        for number, inputs, word in ((1, (), 5), (2, (9,), 9), (3, (9,), 1), (3, (), 0)):
            machine = self.after(image_of([("ecall", 0, 0, 0)]), {10: 5, 17: number, 11: 6}, inputs=inputs)
            self.assertEqual((machine.registers[10], machine.registers[11], machine.registers[17], machine.pc), (word, 6, number, 4100))

    def test_ebreaks(self):
        stop = ("ebreak", 0, 0, 0)
        for kind in ("bounds", "zero", "told", "stack", "input"):
            image = image_of([NOP, stop], traps=((4100, kind),))
            self.assertEqual(self.both(image), ((), ("trap", kind, ("m", 2, 1)), 2))
            self.assertEqual(self.both(image, (), 1), ((), ("on",), 1))
            self.assertEqual(self.both(image, (), 2), ((), ("trap", kind, ("m", 2, 1)), 2))
        for traps in ((), ((4096, "zero"),), ((4104, "zero"),)):
            self.assertEqual(self.both(image_of([NOP, stop, NOP], traps=traps)), ((), ("astray", 4100), 2))

    def test_fence(self):
        machine = self.after(image_of([("fence", 0, 0, 0)]), {5: 6})
        self.assertEqual((machine.pc, machine.steps, machine.registers[5], sum(machine.registers)), (4100, 1, 6, 6))

    def test_go(self):
        rows = [("addi", 5, 5, 1)] * 6 + [("addi", 17, 0, 0), ("ecall", 0, 0, 0)]
        for kind, run in MACHINES:
            machine = kind(image_of(rows), ())
            for most, steps in ((0, 0), (1, 1), (1, 1), (0, 1), (3, 3), (7, 7)):
                machine.go(most)
                self.assertEqual((machine.steps, machine.ended, machine.pc), (steps, None, 4096 + 4 * steps))
            machine.go(8)
            self.assertEqual((machine.steps, machine.ended, machine.pc), (8, ("answer", 0), 4096 + 28))
            machine.go(100)
            self.assertEqual((machine.steps, machine.ended, machine.pc), (8, ("answer", 0), 4096 + 28))
            for most in range(8):
                self.assertEqual(run(image_of(rows), (), most), ((), ("on",), most))
            for most in (8, 9, 200000):
                self.assertEqual(run(image_of(rows), (), most), ((), ("answer", 0), 8))

    def test_field_at(self):
        image = image_of([NOP] * 5, (7, 8, 9), 8)
        start, stack = data_start(image), stack_start(image)
        self.assertEqual((start, stack), (4096 + 32, 4096 + 48))
        for kind, _ in MACHINES:
            machine = kind(image, ())
            words, at = machine.field_at(start)
            self.assertEqual((words[:3], at), ([7, 8, 9], 0))
            self.assertIs(machine.field_at(start + 8)[0], words)
            self.assertEqual(machine.field_at(start + 8)[1], 2)
            words[1] = 55
            self.assertEqual(machine.field_at(start + 4)[0][1], 55)
            words, at = machine.field_at(stack + 4)
            self.assertEqual((words[at], at), (0, 1))
            for address in (0, 4096, 4096 + 16, start - 4, start + 12, stack - 4, stack + 8, TWO32 - 4):
                self.assertEqual(machine.field_at(address), (None, 0))
            self.assertEqual(kind(image, ()).field_at(start + 4)[0][1], 8)
        bare = Machine(image_of([NOP]), ())
        for address in (data_start(image_of([NOP])), stack_start(image_of([NOP]))):
            self.assertEqual(bare.field_at(address), (None, 0))

    def test_a_stack_of_few_bytes(self):
        for many in (1, 2, 4, 6, 7):
            image = image_of([("sb", 5, 6, 0)], (), many)
            for at in range(9):
                machine = self.after(image, {5: stack_start(image) + at, 6: 1})
                self.assertEqual(machine.ended, None if at < many else ("astray", 4096))

    def test_runs_that_callers_begin(self):
        rows = number_made(5, 0x12345fff) + [("add", 10, 5, 6), ("addi", 17, 0, 0), ("ecall", 0, 0, 0)]
        for kind, _ in MACHINES:
            machine = kind(image_of(rows), ())
            machine.registers[6] = 2 ** 31
            machine.go(99)
            self.assertEqual(machine.ended, ("answer", (0x12345fff + 2 ** 31) % TWO32))
            machine = kind(image_of(rows), ())
            machine.registers = [0] * 6 + [7] + [0] * 25
            machine.go(99)
            self.assertEqual(machine.ended, ("answer", 0x12346006))

    def test_nothing_is_changed(self):
        image = image_of([("sw", 5, 6, 0), ("addi", 17, 0, 2), ("ecall", 0, 0, 0)], (1, 2), 16)
        inputs = [5]
        for kind, _ in MACHINES:
            machine = kind(image, inputs)
            machine.registers[5] = data_start(image)
            machine.registers[6] = 77
            machine.go(9)
            self.assertEqual(machine.field_at(data_start(image))[0][0], 77)
        self.assertEqual((inputs, image[1]), ([5], (1, 2)))
        self.assertEqual(run_image(image, inputs, 9), run_image(image, inputs, 9))


class RunsTest(unittest.TestCase):
    def test_random_images(self):
        endings = set()
        for seed in range(150):
            numbers = random.Random(seed)
            unit = lower_module(checked(random_program(seed)[0])[0]) if seed % 3 == 0 else random_unit(seed, numbers.choice((2, 5)), tame=True)
            thing = object_of(unit)
            for _ in range(3):
                inputs = tuple(numbers.choice(WORDS) for _ in range(numbers.choice((0, 2, 9))))
                limit, most = numbers.choice((1, 2, 3, 20)), numbers.choice((0, 5, 50, 3000))
                image = link([thing], (), limit, numbers.choice((0, 4096, 2 ** 28)))
                told = run_image(image, inputs, most)
                self.assertEqual(told, run_machine(image, inputs, most))
                self.assertEqual(run_ready(image, list(inputs), most), told)
                outputs, ending, steps = run_middle([unit], inputs, limit, 2000)
                if ending[0] not in ("on", "astray"):
                    again = run_image(image, inputs, image[7] * (steps + 1) + 1)
                    self.assertEqual(again[:2], (outputs, ending))
                    self.assertLessEqual(again[2], image[7] * (steps + 1))
                    endings.add(ending[1] if ending[0] == "trap" else "answer")
        self.assertEqual(sorted(endings), ["answer", "bounds", "input", "stack", "told", "zero"])

    def test_what_always_holds(self):
        """[64]: register 0 is 0, all are words, steps never get less, outputs only grow, code never changes."""
        for seed in range(40):
            image = link([object_of(random_unit(seed, 4, tame=True))], (), 3)
            for kind, _ in MACHINES:
                machine = kind(image, (1, 2 ** 32 - 1, 3))
                steps, outputs, code = 0, [], image[0]
                for _ in range(200):
                    machine.step()
                    self.assertIn(machine.steps - steps, (0, 1))
                    self.assertEqual(machine.outputs[:len(outputs)], outputs)
                    self.assertEqual((machine.registers[0], len(machine.registers)), (0, 32))
                    for word in machine.registers + machine.outputs:
                        self.assertTrue(isinstance(word, int) and not isinstance(word, bool) and 0 <= word < TWO32)
                    steps, outputs = machine.steps, list(machine.outputs)
                self.assertEqual(image[0], code)
                for address in range(data_start(image), data_start(image) + 4 * len(image[1]), 4):
                    words, at = machine.field_at(address)
                    self.assertTrue(0 <= words[at] < TWO32)

    def test_random_words(self):
        """Both machines, and the one of the tests, on images with words changed, side by side."""
        for seed in range(200):
            numbers = random.Random(seed)
            image = link([object_of(random_unit(seed, 3, tame=True))], (), 3)
            words = list(image[0])
            for _ in range(3):
                words[numbers.randrange(6, len(words))] ^= 1 << numbers.randrange(32)
            image = (tuple(words),) + image[1:]
            one, other = Machine(image, (1, 2, 3)), ReadyMachine(image, (1, 2, 3))
            for _ in range(150):
                self.assertEqual((one.pc, one.registers, one.outputs, one.steps, one.ended), (other.pc, other.registers, other.outputs, other.steps, other.ended))
                one.step()
                other.step()
            for address in range(data_start(image), stack_start(image) + image[2] + 16, 4):
                self.assertEqual(one.field_at(address), other.field_at(address))

    def test_random_registers(self):
        for seed in range(100):
            numbers = random.Random(seed)
            image = link([object_of(random_unit(seed, 3))], (), 3)
            one, other = Machine(image, (1, 2)), ReadyMachine(image, (1, 2))
            for number in range(1, 32):
                one.registers[number] = other.registers[number] = numbers.choice(WORDS + (4096, 4128, stack_start(image)))
            one.pc = other.pc = 4096 + 4 * numbers.randrange(6, len(image[0]))
            for _ in range(100):
                self.assertEqual((one.pc, one.registers, one.outputs, one.steps, one.ended), (other.pc, other.registers, other.outputs, other.steps, other.ended))
                one.step()
                other.step()


if __name__ == "__main__":
    unittest.main()

"""[57], [58]: archives and images."""

import itertools
import random
import unittest

from machines import TestMachine, run_machine
from middlefunctions import random_unit
from middleruns import run_middle
from programs import random_program
from support import checked
from trueimage.errors import BadLink, BadThing
from trueimage.forms import decode
from trueimage.inlining import placed_small, unit_with_tails
from trueimage.linking import data_start, link, stack_needed, stack_start, taken, unlinked
from trueimage.lowering import lower_module
from trueimage.objects import object_of
from trueimage.units import wrong_together

AT = ("m", 1, 1)


def small(name, gives=(), wants=(), things=(), main=False):
    """The object of a unit that gives functions without params and globals, and wants functions."""
    functions = [(word, "int()", (), (((), (("const", 0, 1, AT),), ("return", 0)),)) for word in gives]
    if main:
        functions.append(("main", "int()", (), (((), tuple(("call", at, word, (), 1, AT) for at, word in enumerate(wants)) + (("const", 99, 7, AT),), ("return", 99)),)))
    made = tuple((word, "int[" + str(many) + "]", many, tuple(range(many))) for word, many in things)
    told = tuple((word, "int()", 0) for word in sorted(wants))
    return object_of((name, made, tuple(functions), told))


def by_hand(frames, calls, limit):
    """The most bytes of the stack that all ways of calls from main on may need, gone one by one."""
    sizes = dict(frames)
    most = 0
    seen = set()
    pile = [("main", 0, 0)]
    while pile:
        way = pile.pop()
        if way in seen:
            continue
        seen.add(way)
        name, depth, held = way
        most = max(most, held + sizes[name])
        for caller, callee, deeper, is_tail in calls:
            if caller == name and depth + deeper < limit:
                pile.append((callee, depth + deeper, held if is_tail else held + sizes[name]))
    return most


def bare(frames, calls, name="m"):
    """An object with these frames and calls, and nothing else."""
    names = tuple((word, "int()", 0, at) for at, (word, _) in enumerate(frames))
    return (name, (0x00008067,) * len(frames), (), names, (), (), (None,) * len(frames), (), tuple(frames), tuple(calls), 8)


class ArchivesTest(unittest.TestCase):
    def test_members_that_want_one_another(self):
        main = small("main", (), ("a",), main=True)
        a, b, c, d = small("a", ("a",), ("b",)), small("b", ("b",), ("c",)), small("c", ("c",), ("a",)), small("d", ("d",), ("a",))
        for order in itertools.permutations((a, b, c, d)):
            for cut in range(5):
                archives = (("one", order[:cut]), ("two", order[cut:]))
                told = taken([main], archives)
                self.assertEqual(told, [main, a, b, c])
                self.assertEqual(taken((main,), [["one", list(order[:cut])], ["two", list(order[cut:])]]), told)
                # Main is wanted, too, though nobody names it.
                self.assertEqual(taken([], (("main", (d, main)),) + archives), [main, a, b, c])
        self.assertEqual(taken([], ()), [])
        self.assertEqual(taken([], (("one", (a, b)),)), [])

    def test_the_first_member_that_gives_a_name(self):
        main = small("main", (), ("a", "b"), main=True)
        both, one, other = small("both", ("a", "b")), small("one", ("a",)), small("other", ("b",), (), (("x", 2),))
        self.assertEqual(taken([main], (("all", (one, both, other)),)), [main, one, both])
        self.assertEqual(taken([main], (("all", (both, one, other)),)), [main, both])
        self.assertEqual(taken([main, one], (("all", (one, other)), ("more", (both,)))), [main, one, other])
        self.assertEqual(taken([main, both], (("all", (one, other)),)), [main, both])
        self.assertEqual(taken([], (("all", (main, main, one, one)), ("more", (other,)))), [main, one, other])

    def test_again_from_the_beginning(self):
        main = small("main", (), ("b",), main=True)
        a, b = small("a", ("a",)), small("b", ("b",), ("a",))
        self.assertEqual(taken([main], (("all", (a, b)),)), [main, b, a])

    def test_each_one_taken_was_wanted(self):
        for seed in range(200):
            numbers = random.Random(seed)
            words = "abcdefg"
            members = []
            for at in range(numbers.randrange(1, 8)):
                gives = numbers.sample(words, numbers.randrange(3))
                wants = [word for word in numbers.sample(words, numbers.randrange(3)) if word not in gives]
                members.append(small("u" + str(at), gives, wants))
            first = small("main", (), numbers.sample(words, 2), main=True)
            told = taken([first], (("x", members[:2]), ("y", members[2:])))
            given, wanted = set(), {"main"}
            for at, thing in enumerate(told):
                gives = {name for name, _, _, _ in thing[3]}
                self.assertTrue(at == 0 or gives & wanted - given)
                given |= gives
                wanted |= {name for name, _, _ in thing[4]}
            for member in members:
                self.assertFalse(member not in told and {name for name, _, _, _ in member[3]} & wanted - given)

    def test_unlinked(self):
        for seed in range(200):
            numbers = random.Random(seed)
            units = []
            for at in range(numbers.randrange(4)):
                names = numbers.sample(("a", "b", "c", "main", "x", "y"), 4)
                things = tuple((name, numbers.choice(("int", "uint")), 1, ()) for name in names[:numbers.randrange(3)])
                functions = tuple((name, "int(int)" if numbers.random() < 0.3 else "int()", (), None) for name in names[2:2 + numbers.randrange(3)] if name not in
                                  [thing[0] for thing in things])
                functions = tuple(told[:3] + (((((0,) if told[1] == "int(int)" else ()), (("const", 5, 1, AT),), ("return", 5)),),) for told in functions)
                given = {told[0] for told in things + functions}
                wants = tuple((name, numbers.choice(("int", "int()")), numbers.choice((-1, 0))) for name in ("a", "b", "x", "z") if name not in given)
                units.append(("u" + str(at), things, functions, wants))
            self.assertEqual(unlinked([object_of(unit) for unit in units]), wrong_together(units))
        self.assertEqual(unlinked([]), [("missing", "main")])


class StackTest(unittest.TestCase):
    def test_all_ways_of_calls(self):
        for seed in range(300):
            numbers = random.Random(seed)
            names = ["main", "a", "b", "c", "d"][:numbers.randrange(1, 6)]
            frames = [(name, 16 * numbers.choice((0, 1, 2, 3, 9))) for name in names]
            calls = {(numbers.choice(names), numbers.choice(names), numbers.choice((1, 1, 1, 2, 3, 5)), numbers.random() < 0.3) for _ in range(numbers.randrange(8))}
            thing = bare(frames, sorted(calls))
            for limit in (1, 2, 3, 7, 12):
                self.assertEqual(stack_needed([thing], limit), by_hand(frames, calls, limit), (frames, calls, limit))

    def test_rings_and_depths(self):
        frames = (("main", 32), ("f", 48))
        for deeper in (1, 2, 7, 999, 1000):
            thing = bare(frames, (("f", "f", deeper, False), ("main", "f", deeper, False)))
            for limit in (1, deeper, min(deeper + 1, 1000), 1000):
                many = (limit - 1) // deeper
                self.assertEqual(stack_needed([thing], limit), 32 + 48 * many, (deeper, limit))
        tails = bare(frames, (("f", "main", 1, True), ("main", "f", 1, True)))
        self.assertEqual(stack_needed([tails], 1000), 48)
        self.assertEqual(stack_needed([tails], 1), 32)
        mixed = bare((("main", 64), ("f", 16)), (("f", "f", 1, True), ("main", "f", 1, False)))
        self.assertEqual(stack_needed([mixed], 500), 80)

    def test_calls_from_object_to_object(self):
        one = bare((("main", 16),), (("main", "far", 3, False),))
        other = bare((("far", 160), ("nobody", 9600)), (("far", "main", 2, False),), "n")
        self.assertEqual([stack_needed([one, other], limit) for limit in (1, 3, 4, 5, 6, 9)], [16, 16, 176, 176, 192, 352])
        self.assertEqual(stack_needed((other, one), 9), 352)

    def test_as_much_as_a_run_uses(self):
        down = ("down", "int(int)", (3,), (
            ((0,), (), ("if", 0, 1, (), 2, ())), ((), (("const", 1, 1, AT), ("op", 2, "sub", 0, 1, AT), ("call", 3, "down", (2,), 1, AT)), ("return", 3)),
            ((), (), ("return", 0))))
        main = ("main", "int()", (), (((), (("in", 0, AT), ("call", 1, "down", (0,), 1, AT)), ("return", 1)),))
        thing = object_of(("m", (), (down, main), ()))
        for limit in (2, 3, 5, 30):
            image = link([thing], [], limit)
            self.assertEqual(image[2], stack_needed([thing], limit))
            # The deepest run uses all of it.
            machine = TestMachine(image, (limit - 2,))
            self.assertEqual(machine.run(5000)[1][0], "answer")
            self.assertEqual(machine.least, stack_start(image))
        frames = dict(thing[8])
        self.assertEqual(stack_needed([thing], 30), frames["main"] + 29 * frames["down"])


class ImageTest(unittest.TestCase):
    def look(self, things, limit, base):
        """Each part of an image is as told."""
        image = link(things, (), limit, base)
        self.assertEqual(len(image), 9)
        words, data, stack, told, places, traps, names, pace, start = image
        self.assertEqual((told, start, stack), (limit, base, stack_needed(things, limit)))
        self.assertEqual(pace, max(thing[10] for thing in things))
        self.assertEqual(len(words), 6 + sum(len(thing[1]) for thing in things))
        self.assertEqual(places, (None,) * 6 + tuple(place for thing in things for place in thing[6]))
        firsts = []
        for thing in things:
            for _, _, many, given in thing[2]:
                firsts += list(given) + [0] * (many - len(given))
        self.assertEqual(data, tuple(firsts))
        self.assertEqual(data_start(image), -(-(base + 4 * len(words)) // 16) * 16)
        self.assertEqual(stack_start(image), -(-(data_start(image) + 4 * len(data)) // 16) * 16)
        self.look_at_names_and_traps(image, things)
        self.look_at_words(image, things)
        return image

    def addresses(self, image, things):
        found = {}
        code, behind = image[8] + 24, data_start(image)
        for thing in things:
            found.update({name: code + 4 * at for name, _, _, at in thing[3]})
            for name, _, many, _ in thing[2]:
                found[name] = behind
                behind += 4 * many
            code += 4 * len(thing[1])
        return found

    def look_at_names_and_traps(self, image, things):
        self.assertEqual(image[6], tuple(sorted(self.addresses(image, things).items())))
        traps, code = [], image[8] + 24
        for thing in things:
            traps += [(code + 4 * at, kind) for at, kind in thing[7]]
            code += 4 * len(thing[1])
        self.assertEqual(image[5], tuple(traps))

    def look_at_words(self, image, things):
        addresses = self.addresses(image, things)
        at = 6
        for thing in things:
            patches = {patch[0]: patch[1:] for patch in thing[5]}
            upper = None
            for number, word in enumerate(thing[1]):
                new, old = decode(image[0][at]), decode(word)
                if number not in patches:
                    self.assertEqual(image[0][at], word)
                else:
                    kind, name, behind = patches[number]
                    self.assertEqual(new[0], old[0])
                    if kind == "limit":
                        self.assertEqual(new, old[:3] + (image[3],))
                    elif kind == "jump":
                        self.assertEqual(new[2], addresses[name] + behind - (image[8] + 4 * at))
                        self.assertEqual(new[:2] + new[3:], old[:2] + old[3:])
                    elif kind == "high":
                        self.assertEqual(new[:2] + new[3:], old[:2] + old[3:])
                        upper = new[2] << 12
                    else:
                        self.assertEqual(new[:3], old[:3])
                        self.assertEqual((upper + new[3]) % 2 ** 32, addresses[name] + behind)
                at += 1

    def test_random_images(self):
        for seed in range(120):
            numbers = random.Random(seed)
            unit = lower_module(checked(random_program(seed)[0])[0]) if seed % 2 else random_unit(seed)
            things = [object_of(unit), small("zz", ("zf",), ("ze",), (("zg", 3),)), small("zy", ("ze",), (), (("zh", 1000), ("zi", 1)))]
            numbers.shuffle(things)
            self.look(things, numbers.choice((1, 2, 1000)), numbers.choice((0, 16, 4096, 65536, 2 ** 28 - 16, 2 ** 28)))

    def test_the_words_that_begin_it(self):
        for base in (0, 16, 4096, 2 ** 28):
            image = link([small("m", (), (), (("g", 5),), main=True)], [], 9, base)
            end = stack_start(image) + image[2]
            first, second, third, call, last, ecall = [decode(word) for word in image[0][:6]]
            self.assertEqual((first[0], first[1], second[:3]), ("lui", 2, ("addi", 2, 2)))
            self.assertEqual((first[2] * 4096 + second[3]) % 2 ** 32, end)
            self.assertEqual((third, last, ecall), (("addi", 10, 0, 1), ("addi", 17, 0, 0), ("ecall", 0, 0, 0)))
            self.assertEqual(call, ("jal", 1, dict(image[6])["main"] - base - 12, 0))
            self.assertEqual(run_machine(image, (), 99)[:2], ((), ("answer", 7)))

    def test_orders_splits_and_bases_do_the_same(self):
        texts = ("module a; int n[3] = {1, 2}; int twice(int x) { n[2] = n[2] + x; return x + x; }",
                 "module b; use a; int far(int x) { if (x > 5) return twice(x) + n[x mod 4]; return far(x + 1) + 1; }",
                 "module c; use a; use b; int main() { while (more()) out(far(in()) + n[2]); return n[0]; }")
        units = [lower_module(module) for module in checked(*texts)]
        things = [object_of(unit) for unit in units]
        for inputs in ((), (0,), (9, 7, 2 ** 31), (5, 6, 8)):
            for limit in (1, 3, 6, 7, 8):
                outputs, ending, steps = run_middle(units, inputs, limit, 5000)
                for order in itertools.permutations(things):
                    for cut in range(4):
                        for base in (0, 4096, 2 ** 28):
                            image = link(order[:cut], (("rest", order[cut:]),), limit, base)
                            told = run_machine(image, inputs, image[7] * (steps + 1) + 1)
                            self.assertEqual(told[:2], (outputs, ending))
                            self.assertLessEqual(told[2], image[7] * (steps + 1))

    def test_random_units_linked(self):
        for seed in range(150):
            numbers = random.Random(seed)
            unit = random_unit(seed, numbers.choice((2, 5, 9)), tame=True)
            unit = numbers.choice((unit, unit_with_tails(unit), placed_small(unit, 2)))
            # Its functions are split into two units.
            cut = numbers.randrange(len(unit[2]) + 1)
            halves = []
            for name, things, functions, others in (("one", unit[1], unit[2][:cut], unit[2][cut:]), ("two", (), unit[2][cut:], unit[2][:cut])):
                wants = [(other[0], other[1], len(other[3][0][0])) for other in others] + [(thing[0], thing[1], -1) for thing in unit[1] if name == "two"]
                halves.append((name, things, functions, tuple(sorted(wants))))
            self.assertEqual(wrong_together(halves), [])
            things = [object_of(half) for half in halves]
            numbers.shuffle(things)
            inputs = tuple(numbers.choice((0, 1, 2, 3, 2 ** 32 - 1)) for _ in range(6))
            for limit in (1, 2, 3, 9):
                outputs, ending, steps = run_middle(halves, inputs, limit, 2000)
                if ending != ("on",):
                    image = self.look(things, limit, 4096)
                    told = run_machine(image, inputs, image[7] * (steps + 1) + 1)
                    self.assertEqual(told[:2], (outputs, ending))


class ErrorsTest(unittest.TestCase):
    THING = small("m", (), (), (), main=True)

    def test_limits(self):
        for limit in (1, 2, 999, 1000):
            self.assertEqual(link([self.THING], [], limit)[3], limit)
        for limit in (0, -1, 1001, True, None, "7", 7.0, (7,)):
            with self.assertRaises(BadThing) as caught:
                link([self.THING], [], limit)
            self.assertEqual(caught.exception.thing, limit)

    def test_bases(self):
        self.assertEqual(link([self.THING], [], 7)[8], 4096)
        for base in (0, 16, 32, 4096, 2 ** 28 - 16, 2 ** 28):
            self.assertEqual(link([self.THING], [], 7, base)[8], base)
        for base in (-16, 1, 8, 15, 2 ** 28 + 16, 2 ** 28 - 1, False, None, "0", 16.0):
            with self.assertRaises(BadThing) as caught:
                link([self.THING], [], 7, base)
            self.assertEqual(caught.exception.thing, base)

    def test_objects_that_do_not_go_together(self):
        wanting = small("n", (), ("far",), (), main=True)
        for things, archives, found in (
            ([], (), [("missing", "main")]), ([wanting], (), [("missing", "far")]),
            ([self.THING, self.THING], (), [("doubled", "main")]), ([self.THING, wanting], (), [("doubled", "main"), ("missing", "far")]),
            ([wanting], (("x", (small("o", (), (), (("far", 2),)),)),), [("unlike", "far")]),
        ):
            with self.assertRaises(BadLink) as caught:
                link(things, archives, 7)
            self.assertEqual(caught.exception.found, found)

    def test_errors_in_their_order(self):
        for things in ([], [bare((("main", 2 ** 24), ("f", 16)), (("main", "f", 1, False),))]):
            for limit, base, error in ((0, 7, 0), (0, 16, 0), (7, 7, 7)):
                with self.assertRaises(BadThing) as caught:
                    link(things, [], limit, base)
                self.assertEqual(caught.exception.thing, error)
        large = bare((("main", 2 ** 24), ("f", 16)), (("main", "f", 1, False),))
        with self.assertRaises(BadLink):
            link([large, large], [], 7)

    def test_too_large_images(self):
        for size, limit, right in ((2 ** 24 - 16, 2, True), (2 ** 24, 1, True), (2 ** 24, 2, False), (2 ** 24 + 16, 1, False)):
            thing = bare((("main", size), ("f", 16)), (("main", "f", 1, False),))
            if right:
                self.assertEqual(link([thing], [], limit)[2], size + 16 * (limit - 1))
            else:
                with self.assertRaises(BadThing) as caught:
                    link([thing], [], limit)
                self.assertEqual(caught.exception.thing, limit)
        for many, right in ((199000, True), (200001, False)):
            thing = ("m", (0x00008067,) * many, (), (("main", "int()", 0, 0),), (), (), (None,) * many, (), (("main", 0),), (), 8)
            if right:
                self.assertEqual(len(link([thing], [], 7)[0]), many + 6)
            else:
                with self.assertRaises(BadThing) as caught:
                    link([thing], [], 7)
                self.assertEqual(caught.exception.thing, 7)


if __name__ == "__main__":
    unittest.main()

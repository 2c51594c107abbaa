"""[1], [2], [27]: modules of texts, and images made of them by choices."""

import itertools
import random
import unittest

from machines import TestMachine
from programs import Teller
from splits import random_modules
from support import GREATEST_TWO
from trueimage.errors import BadLink, BadProgram, BadText, BadThing
from trueimage.linking import stack_start
from trueimage.machine import Machine, run_image
from trueimage.meaning import mean
from trueimage.readymachine import run_ready
from trueimage.whole import built, modules_of

PASSES = ("fold", "params", "again", "dead", "loops", "join", "thread")
PLAIN = (0, False, (), 11)
INPUTS = (0, 1, 2, 3, 2147483648, 4294967295)
MAIN = "module m; int main() { return 7; }"
A = "module a; int n[3] = {1, 2}; int twice(int x) { n[2] = n[2] + x; return x + x; }"
B = "module b; use a; int far(int x) { if (x > 5) return twice(x) + n[x mod 4]; return far(x + 1) + 1; }"
C = "module c; use b; use a; int main() { while (more()) out(far(in()) + n[2]); return n[0]; }"


def random_choice(numbers):
    """A choice."""
    passes = tuple(numbers.choice(PASSES) for _ in range(numbers.choice((0, 0, 1, 2, 4, 9))))
    return (numbers.randrange(9), numbers.random() < 0.5, passes, numbers.randrange(1, 12))


class ModulesTest(unittest.TestCase):
    def test_texts_in_all_orders(self):
        for order in itertools.permutations((A, B, C)):
            modules = modules_of(order)
            self.assertIsInstance(modules, list)
            self.assertEqual([module[1] for module in modules], [text[7] for text in order])
            self.assertEqual(mean(modules, (9, 1), 20, 9999), mean(modules_of([A, B, C]), (9, 1), 20, 9999))
        self.assertEqual(modules_of((A, B, C)), modules_of([A, B, C]))
        self.assertEqual(modules_of([]), [])
        self.assertEqual(modules_of(()), [])
        self.assertEqual(len(modules_of([A])), 1)

    def fault(self, *texts):
        with self.assertRaises(BadProgram) as caught:
            modules_of(texts)
        return caught.exception.place, caught.exception.why

    def test_rings(self):
        one, two, three = "module one; use two;", "module two; use three;", "module three; use one;"
        for texts, names in (((one, two, three), ("one", "two", "three")), ((three, MAIN, two, one), ("one", "two", "three")),
                             (("module x; use x;",), ("x",)), (("module x; use y;", "module y; use x;", A), ("x", "y"))):
            for order in itertools.permutations(texts):
                place, why = self.fault(*order)
                self.assertEqual((place[1:], why), ((1, 1), "uses"))
                self.assertIn(place[0], names)

    def test_modules_that_lack(self):
        for texts, name in (((B,), "b"), ((MAIN, B), "b"), ((A, "module b; use a; use z;"), "b"), (("\n\n module x; use\n y;",), "x")):
            for order in itertools.permutations(texts):
                self.assertEqual(self.fault(*order), ((name, 1, 1), "uses"))

    def test_two_of_one_name(self):
        for texts in ((A, A), (A, "module a;"), (A, B, C, "  module c;"), (MAIN, MAIN, MAIN)):
            for order in itertools.permutations(texts):
                place, why = self.fault(*order)
                self.assertEqual((place[1:], why), ((1, 1), "told twice"))
                self.assertIn(place[0], ("a", "c", "m"))
        # Both a ring and two of one name: either is told.
        place, why = self.fault("module x; use x;", "module x; use x;")
        self.assertEqual(place, ("x", 1, 1))
        self.assertIn(why, ("uses", "told twice"))

    def test_wrong_texts_come_first(self):
        for texts, found in ((("module", "modul a;"), (1, 7)), ((MAIN, "modul a;", "module"), (1, 1)), (("module a; use a;", "module a; use a;", "module b"), (1, 9)),
                             ((MAIN, None), (0, 0)), ((5, "modul"), (0, 0)), (("module a; int x = y;", "module b; int $;"), (1, 15))):
            with self.assertRaises(BadText) as caught:
                modules_of(texts)
            self.assertEqual((caught.exception.line, caught.exception.column), found)

    def test_wrong_programs(self):
        for texts, name in (((A, "module b; use a; int f() { return g(); }"), "b"), (("module a; int x = y;", MAIN), "a"), ((A, B, "module c; use b; int f() { return n[0]; }"), "c"),
                            ((MAIN, "module z; struct s { };"), "z"), (("module a; use b; use b;", "module b;"), "a"),
                            (("module a; struct s { int x; };", "module b; use a; struct s g;", "module c; use b;"), "c")):
            for order in itertools.permutations(texts):
                place, _ = self.fault(*order)
                self.assertEqual(place[0], name)


class ErrorsTest(unittest.TestCase):
    def wrong(self, texts, choice, limit, error):
        with self.assertRaises(error, msg=(choice, limit)):
            built(texts, choice, limit)

    WRONG = [(many, False, (), 3) for many in (-1, 9, True, False, None, "1", 1.0, (1,))]
    WRONG += [(0, tails, (), 3) for tails in (0, 1, None, "True", ())]
    WRONG += [(0, False, passes, 3) for passes in (["fold"], [], "fold", "", None, ("folds",), ("fold", "Fold"), ("fold", None), (("fold",),), (5,), ("",), (["fold"],), True,
                                                   {"fold": 1})]
    WRONG += [(0, False, (), colours) for colours in (0, 12, -1, True, None, "3", 3.0, (3,))]
    WRONG += [(), (0, False, ()), (0, False, (), 3, 0), [0, False, (), 3], None, 5, "fold", {0: 1}, True]

    def test_values_that_are_no_choice(self):
        for choice in self.WRONG:
            # They are told ahead of wrong texts, programs, limits and links.
            for texts, limit in (([MAIN], 1), (["module"], 1), ([B], 0), ([], 1), ([A], 1001), ([None], 5)):
                self.wrong(texts, choice, limit, BadThing)

    def test_texts_ahead_of_programs_ahead_of_limits(self):
        for limit in (1, 0, 1001, True, None, "7"):
            self.wrong(["module", B], PLAIN, limit, BadText)
            self.wrong([B, "module"], PLAIN, limit, BadText)
            self.wrong([MAIN, None], PLAIN, limit, BadText)
            self.wrong([B], PLAIN, limit, BadProgram)
            self.wrong([MAIN, "module a; int x = y;"], PLAIN, limit, BadProgram)
            if limit != 1:
                self.wrong([MAIN], PLAIN, limit, BadThing)
                self.wrong([A], PLAIN, limit, BadThing)
                self.wrong([], PLAIN, limit, BadThing)

    def test_links(self):
        for texts, found in (([], [("missing", "main")]), ([A], [("missing", "main")]), ([MAIN, "module n; int main() { return 7; }"], [("doubled", "main")]),
                             ([MAIN, "module n; int x;", "module o; void x() { }"], [("doubled", "x")]), (["module n; int main;"], [("unlike", "main")])):
            with self.assertRaises(BadLink) as caught:
                built(texts, PLAIN, 1)
            self.assertEqual(caught.exception.found, found)

    def test_images_that_are_too_large(self):
        text = "module m; int f(int x) { " + "".join(f"int a{at}[256]; " for at in range(17)) + "return x ? f(x - 1) : a0[x]; } int main() { return f(in()); }"
        self.wrong([text], PLAIN, 1000, BadThing)
        image, most = built([text], PLAIN, 100)
        self.assertEqual(run_image(image, (98,), 3000000)[1], ("answer", 0))
        self.assertGreater(most, 0)


class BuiltTest(unittest.TestCase):
    def look(self, texts, runs, choices):
        """Images do what the modules mean, at the same place, within the told steps, and within their stack."""
        modules = modules_of(texts)
        for inputs, limit in runs:
            outputs, ending, steps = mean(modules, inputs, limit, 100000)
            self.assertNotEqual(ending, ("on",))
            for choice in choices:
                image, most = built(texts, choice, limit)
                if choice[2] == ():
                    self.assertLessEqual(most, 100 * (1 + choice[0]) * image[7])
                told = run_image(image, inputs, most * (steps + 1) + 1)
                self.assertEqual(told[:2], (outputs, ending), (texts, choice))
                self.assertLessEqual(told[2], most * (steps + 1))
                self.assertEqual(run_ready(image, inputs, most * (steps + 1) + 1), told)
                machine = TestMachine(image, inputs)
                self.assertEqual(machine.run(most * (steps + 1) + 1), told)
                self.assertGreaterEqual(machine.least, stack_start(image))
        return outputs, ending

    def test_program_of_the_document(self):
        choices = [(many, tails, passes, colours) for many in (0, 8) for tails in (False, True) for passes in ((), PASSES) for colours in (1, 11)]
        self.assertEqual(self.look([GREATEST_TWO], [((3, 9, 4), 9)], choices), ((13,), ("answer", 0)))
        self.assertEqual(self.look([GREATEST_TWO], [((), 9)], choices), ((0,), ("answer", 0)))

    def test_each_choice_alone(self):
        choices = [(many, False, (), 3) for many in range(9)] + [(2, True, (), colours) for colours in range(1, 12)] + [(0, True, (name,), 2) for name in PASSES]
        choices += [(1, False, (name,) * 5, 4) for name in PASSES] + [(8, True, PASSES * 4, 11)]
        runs = [((9, 1, 0), 20), ((7, 7), 1), ((7, 2), 2), ((1,), 4), ((), 1), ((9,), 3)]
        self.look([C, A, B], runs, choices)

    def test_traps_of_each_kind(self):
        text = ("module m; int a[3]; int f(int x) { return x ? f(x - 1) : 0; } int main() { while (more()) { switch (in()) { case 0: out(a[in()]);\n"
                "case 1: out(1 / in()); case 2: out(1 mod in()); case 3: assert(in()); case 4: out(f(in())); } } return in(); }")
        for inputs, kind, line in (((0, 2, 0, 3), "bounds", 1), ((1, 1, 1, 0), "zero", 2), ((2, 0), "zero", 2), ((3, 5, 3, 0), "told", 2), ((4, 3, 4, 4), "stack", 1),
                                   ((3, 1), "input", 2), ((3,), "input", 2)):
            _, ending = self.look([text], [(inputs, 5)], [PLAIN, (8, True, PASSES, 1), (3, False, ("thread", "join"), 5)])
            self.assertEqual((ending[:2], ending[2][1]), (("trap", kind), line))

    def test_random_programs(self):
        endings, modules = set(), set()
        for seed in range(160):
            texts, variables, functions = random_modules(seed)
            numbers = random.Random(seed)
            runs = []
            for many in (0, 2, 9):
                inputs = tuple(numbers.choice(INPUTS) for _ in range(many))
                limit = numbers.choice((1, 2, 3, 20))
                outputs, ending, _ = Teller(variables, functions, inputs, limit, 1500).run()
                if ending is not None:
                    self.assertEqual(mean(modules_of(texts), inputs, limit, 100000)[:2], (outputs, ending))
                    runs.append((inputs, limit))
                    endings.add(ending[1] if ending[0] == "trap" else "answer")
            for run in runs:
                self.look(texts, [run], [random_choice(numbers)])
            modules.add(len(texts))
        self.assertEqual((sorted(endings), sorted(modules)), (["answer", "bounds", "input", "stack", "told", "zero"], [1, 2, 3, 4]))

    def test_recursion_with_arrays_and_last_calls(self):
        text = ("module m; struct s { int x; int r[3]; }; int sum(int r[]) { int t; for (int i; i < r.length; i = i + 1) t = t + r[i]; return t; }"
                "int odd(int n, int row[]) { if (n == 0) return sum(row); return even(n - 1, row); }"
                "int even(int n, int row[]) { int mine[4] = {1, 2}; if (n == 0) return sum(row); mine[n & 3] = n; return odd(n - 1, mine) + sum(row); }"
                "int deep(int n, struct s t[]) { struct s u; u.r[n mod 3] = n; if (n == 0) return t[0].r[1]; t[0].x = t[0].x + u.r[n mod 3]; return deep(n - 1, u) + t[0].x; }"
                "int main() { int a[2] = {5, 6}; struct s v; while (more()) { int n = in(); out(odd(n, a)); out(deep(n, v)); out(v.x); } return a[in()]; }")
        choices = [(many, tails, passes, colours) for many in (0, 3) for tails in (False, True) for passes in ((), ("again", "dead") + PASSES) for colours in (1, 4, 11)]
        for limit in (1, 2, 5, 12, 13, 14, 40):
            self.look([text], [((3, 11, 0), limit), ((39,), limit)], choices[limit % 3::3])

    def test_the_limit_met_just_so(self):
        text = "module m; int f(int x) { if (x == 0) return 7; return f(x - 1); } int main() { return f(in()); }"
        for limit in (2, 3, 10, 1000):
            for choice in (PLAIN, (8, True, PASSES, 1), (0, True, (), 3), (5, False, ("join",), 3)):
                self.assertEqual(self.look([text], [((limit - 2,), limit)], [choice])[1], ("answer", 7))
                self.assertEqual(self.look([text], [((limit - 1,), limit)], [choice])[1], ("trap", "stack", ("m", 1, text.index("f(x - 1)") + 1)))

    def test_equal_arguments_give_equal_answers(self):
        texts = [A, B, C]
        for choice in (PLAIN, (4, True, PASSES, 2)):
            image, most = built(texts, choice, 9)
            self.assertEqual(built(list(texts), choice, 9), (image, most))
            self.assertEqual(built(tuple(texts), choice, 9), (image, most))
            self.assertEqual(texts, [A, B, C])
            for inputs in ((9, 2), [9, 2]):
                self.assertEqual(run_image(image, inputs, 9999), run_image(image, inputs, 9999))
        for order in itertools.permutations(texts):
            image, _ = built(order, PLAIN, 9)
            self.assertEqual(run_image(image, (9, 2), 99999)[:2], mean(modules_of(texts), (9, 2), 9, 9999)[:2])

    def test_never_outside(self):
        """No step reads or writes outside, whatever the program does with its indices."""
        text = ("module m; int g[3]; int f(int r[], int i) { r[i] = r[i + 1] + 1; return r[i]; } int main() { int a[5]; int b[2]; int i = in();"
                "out(f(a, i)); out(f(b, i - 3)); out(f(g, i - 3)); out(f(a[i], 0u - 1)); return 0; }")
        for inputs in ((0,), (1,), (3,), (4,), (5,), (2 ** 31,), (2 ** 32 - 1,)):
            for choice in (PLAIN, (8, True, PASSES, 1)):
                _, ending = self.look([text], [(inputs, 9)], [choice])
                self.assertEqual(ending[1], "bounds")


class MachineTest(unittest.TestCase):
    def test_more_and_fewer_inputs(self):
        image, _ = built(["module m; int main() { out(in()); out(more()); return in(); }"], PLAIN, 1)
        self.assertEqual(run_image(image, (1, 2, 3), 999)[:2], ((1, 1), ("answer", 2)))
        self.assertEqual(run_image(image, (1,), 999)[0], (1, 0))
        self.assertEqual(run_image(image, (), 999)[1], ("trap", "input", ("m", 1, 28)))
        machine = Machine(image, (1, 2))
        machine.go(999)
        self.assertEqual((machine.outputs, machine.ended), ([1, 1], ("answer", 2)))


if __name__ == "__main__":
    unittest.main()

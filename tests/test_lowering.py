"""[21], [28]: units do what the modules mean, in at most 10 steps for each step and 10 more."""

import random
import unittest

from middleruns import run_middle
from programs import Teller, random_program
from support import GREATEST_TWO, checked, main_of
from trueimage.lowering import lower_module
from trueimage.meaning import mean
from trueimage.units import check_unit, wrong_together

SEEDS = 300
INPUTS = (0, 1, 2, 3, 2147483648, 4294967295)


def lowered(*texts):
    """The units of texts, looked at."""
    units = [lower_module(module) for module in checked(*texts)]
    for unit in units:
        check_unit(unit)
    return units


class UnitTest(unittest.TestCase):
    def test_parts_of_a_unit(self):
        first = "module one; struct s { int x; int r[3]; }; int a; uint b[3] = {1, -2}; struct s c; struct s d[2]; int f() { return 1; }"
        text = "module two; use one; int z = -5; void g(int x, uint y[], struct s t[]) { } int main() { g(a, b, d); return f(); }"
        one, two = lowered(first, text)
        self.assertEqual(wrong_together([one, two]), [])
        self.assertEqual(one[0], "one")
        self.assertEqual([(name, words, firsts) for name, _, words, firsts in one[1]],
                         [("a", 1, ()), ("b", 3, (1, 2 ** 32 - 2)), ("c", 4, ()), ("d", 8, ())])
        self.assertEqual(one[3], ())
        self.assertEqual([function[0] for function in two[2]], ["g", "main"])
        self.assertEqual([(name, many) for name, _, many in two[3]], [("a", -1), ("b", -1), ("c", -1), ("d", -1), ("f", 0)])
        self.assertEqual({name: kind for name, kind, _ in two[3]}, {
            **{name: kind for name, kind, _, _ in one[1]}, "f": one[2][0][1]})
        self.assertEqual(two[1], (("z", "int", 1, (2 ** 32 - 5,)),))
        self.assertEqual(one[2][0][:3], ("f", "int()", ()))
        kind = two[2][0][1]
        self.assertTrue(kind.startswith("void(int,uint[],") and kind.endswith("[])"), kind)
        self.assertEqual(len(two[2][0][3][0][0]), 5)

    def test_modules_in_any_order_and_split(self):
        texts = ("module a; int n = 3; int twice(int x) { return x + x; }",
                 "module b; use a; int far(int x) { n = n + 1; return twice(x) + n; }",
                 "module c; use a; use b; int main() { out(far(in())); out(n); return far(n); }")
        modules = checked(*texts)
        units = lowered(*texts)
        for order in ((0, 1, 2), (2, 1, 0), (1, 2, 0)):
            told = mean([modules[at] for at in order], (5,), 9, 1000)
            self.assertEqual(run_middle([units[at] for at in order], (5,), 9, 10000)[:2], told[:2])
            self.assertEqual(told[:2], ((14, 4), ("answer", 13)))

    def test_slots_are_the_arrays_and_structures(self):
        unit, = lowered("module m; struct s { int x; int r[3]; }; int main() { int a[5]; struct s b; struct s c[2]; int d; return 0; }")
        self.assertEqual(unit[2][0][2], (5, 4, 8))


class RunTest(unittest.TestCase):
    def look(self, text, inputs=(), limit=20):
        """The unit does what the text means, within the told steps; the answer is what it does."""
        units = lowered(text)
        outputs, ending, steps = mean(checked(text), tuple(inputs), limit, 100000)
        self.assertNotEqual(ending, ("on",))
        told = run_middle(units, inputs, limit, 10 * steps + 11)
        self.assertEqual(told[:2], (outputs, ending), text)
        self.assertLessEqual(told[2], 10 * steps + 10)
        return told[:2]

    def test_program_of_the_document(self):
        self.assertEqual(self.look(GREATEST_TWO, (3, 9, 4)), ((13,), ("answer", 0)))
        self.assertEqual(self.look(GREATEST_TWO), ((0,), ("answer", 0)))

    def test_each_trap(self):
        place = "module m; int a[3]; int f(int x) { return x ? f(x - 1) : 0; } int main() { "
        for body, inputs, kind in (
            ("return a[in()];", (3,), "bounds"), ("return 1 / in();", (0,), "zero"), ("return 1 mod in();", (0,), "zero"),
            ("return in();", (), "input"), ("assert(in()); return 0;", (0,), "told"), ("return f(20);", (), "stack"),
        ):
            outputs, ending = self.look(place + body + " }", inputs)
            self.assertEqual((outputs, ending[:2]), ((), ("trap", kind)))

    def test_limits_met_and_passed(self):
        text = "module m; int f(int x) { if (x == 0) return 7; return f(x - 1); } int main() { return f(in()); }"
        for limit in (2, 3, 10, 1000):
            self.assertEqual(self.look(text, (limit - 2,), limit)[1], ("answer", 7))
            self.assertEqual(self.look(text, (limit - 1,), limit)[1][:2], ("trap", "stack"))

    def test_greatest_structures_arrays_and_slices(self):
        struct = "struct s { " + " ".join("int f" + str(at) + "[64];" for at in range(3)) + " int x; int y[63]; }; "
        ahead = struct + "struct s big[16]; int row[256]; int sum(int r[]) { int t; for (int i; i < r.length; i = i + 1) t = t + r[i]; return t; } "
        ahead += "int last(struct s r[]) { return r[r.length - 1].y[62]; } "
        body = "big[15].y[62] = 9; row[255] = 5; out(last(big)); out(sum(row)); out(sum(big[15].y)); out(last(big[15])); "
        body += "struct s one; one.y[62] = 8; out(last(one)); int mine[256]; mine[0] = 3; mine[255] = 4; out(sum(mine)); out(sum(mine[255])); "
        body += "out(big.length + row.length + mine.length); out(big[in()].x);"
        told = self.look(main_of(body, ahead), (15,))
        self.assertEqual(told, ((9, 5, 9, 9, 8, 7, 4, 528, 0), ("answer", 0)))
        self.assertEqual(self.look(main_of(body, ahead), (16,))[1][:2], ("trap", "bounds"))

    def test_declarations_in_loops_are_all_new(self):
        for many in (1, 7, 8, 9, 10, 256):
            text = main_of(f"for (int i; i < 3; i = i + 1) {{ int a[{many}] = {{5}}; out(a[0]); a[{many} - 1] = a[{many} - 1] + 2; out(a[{many} - 1]); "
                           "a[0] = 1; int x; out(x); x = 4; }")
            self.look(text)
        self.look(main_of("do { struct s t; out(t.x); t.x = 1; out(t.x); out(t.r[1]); t.r[1] = 2; } while (in());", "struct s { int x; int r[2]; }; "),
                  (1, 1, 0))

    def test_statements(self):
        for body, inputs in (
            ("while (more()) { int x = in(); if (x == 3) continue; if (x == 5) break; out(x); }", (1, 3, 4, 5, 6)),
            ("for (;;) { if (!more()) break; out(in() + 1); }", (1, 2)),
            ("do out(in()); while (more());", (7, 8)),
            ("switch (in()) { case 1: out(1); case -2: out(2); default: out(3); }", (2 ** 32 - 2,)),
            ("switch (in()) { } switch (in()) { default: out(9); } switch (in()) { case 5: out(5); }", (1, 2, 5)),
            ("int x = 5; { int y = x; x = y + 1; } out(x); if (x) { int z = 2; out(z); } else out(0);", ()),
            ("int a[2] = {1, 2}; a[a[0]] = a[0] + a[1] * 2; out(a[1]); a[in()] = in();", (1, 5)),
            ("int i = 3; int a[4]; a[i] = i ? 7 : 8; out(a[3]);", ()),
            ("out(in() && in()); out(in() || in()); out(in() ? in() : 5);", (0, 1, 0, 0)),
            ("out(1 && 2 || 3); out(!in() && 1 / in());", (0, 5)),
        ):
            self.look(main_of(body), inputs)

    def test_random_programs(self):
        endings = {}
        for seed in range(SEEDS):
            text, variables, functions = random_program(seed)
            units = lowered(text)
            self.assertEqual(wrong_together(units), [])
            numbers = random.Random(seed)
            for many in (0, 2, 9):
                inputs = tuple(numbers.choice(INPUTS) for _ in range(many))
                limit = numbers.choice((1, 2, 3, 20))
                outputs, ending, steps = Teller(variables, functions, inputs, limit, 3000).run()
                if ending is not None:
                    told = run_middle(units, inputs, limit, 10 * steps + 11)
                    self.assertEqual(told[:2], (outputs, ending), text)
                    self.assertLessEqual(told[2], 10 * steps + 10, text)
                    key = ending[1] if ending[0] == "trap" else "answer"
                    endings[key] = endings.get(key, 0) + 1
        self.assertEqual(sorted(endings), ["answer", "bounds", "input", "stack", "told", "zero"])

    def test_steps_of_single_statements(self):
        # The dearest things, with as little as can be around them.
        ahead = "int g; int a[9]; struct s { int x; int r[2]; }; struct s t[3]; void v() { } int w(int p[], int q[], int r[], int x) { return x; } "
        for body in ("int b[1];", "for (;0;) { }", "v();", "w(a, a, a, 1);", "a[1] = a[2];", "t[1].r[1] = t[2].r[0];", "w(t[1].r, t[2].r, a, g);",
                     "while (g) g = 0;", "switch (g) { case 1: case 2: default: }", "out(1 <= 2);", "out(~g);"):
            for many in (1, 40):
                self.look(main_of(("{ " + body + " } ") * many, ahead))
            self.look(main_of("for (int i; i < 20; i = i + 1) { " + body + " }", ahead))


if __name__ == "__main__":
    unittest.main()

"""[11], [13], [14], [28]: what programs mean."""

import unittest

from support import GREATEST_TWO, checked, main_of, outputs_of, run_of, values_of
from trueimage.meaning import mean

TWO32 = 2 ** 32
NOTED = "int noted(int x) { out(x); return x; } "


class ExpressionsTest(unittest.TestCase):
    def test_signs(self):
        told = values_of("7 + 5", "5 - 7", "7 * 5", "7 / 2", "7 mod 2", "6 & 3", "6 | 3", "6 ^ 3", "1 << 4", "16 >> 2")
        self.assertEqual(told, [12, TWO32 - 2, 35, 3, 1, 2, 7, 5, 16, 4])
        told = values_of("3 < 4", "4 < 3", "3 < 3", "3 <= 3", "4 <= 3", "4 > 3", "3 > 3", "3 >= 3", "2 >= 3", "3 == 3", "3 != 3", "3 == 4", "3 != 4")
        self.assertEqual(told, [1, 0, 0, 1, 0, 1, 0, 1, 0, 1, 0, 0, 1])
        self.assertEqual(values_of("!0", "!7", "~0", "~5", "-1", "-0", "!!7", "- - 3"), [1, 0, TWO32 - 1, TWO32 - 6, TWO32 - 1, 0, 1, 3])

    def test_strengths(self):
        told = values_of(
            "2 + 3 * 4", "20 - 6 - 4", "64 / 4 / 2", "1 + 2 << 3", "1 << 2 < 5", "1 < 2 == 1", "3 & 1 == 1", "1 ^ 3 & 2", "4 | 2 ^ 2",
            "1 || 0 && 0", "0 && 1 | 1", "1 ? 2 : 3 ? 4 : 5", "0 ? 2 : 0 ? 4 : 5", "1 ? 0 ? 6 : 7 : 8", "0 || 1 ? 2 : 3", "-2 * 3 + 7",
            "- 7 mod 4", "!1 + 1", "~1 & 3", "100 - 3 mod 2", "2 * 7 mod 4", "1 << 1 << 2", "3 > 2 > 1", "5 == 5 != 0",
        )
        self.assertEqual(told, [
            14, 10, 8, 24, 1, 1, 1, 3, 4, 1, 0, 2, 5, 7, 2, 1, TWO32 - 3, 1, 2, 99, 2, 8, 0, 1,
        ])

    def test_each_two_signs(self):
        # Without brackets they go together as with them, by the lines of [7].
        lines = ("||", "&&", "|", "^", "&", "== !=", "< <= > >=", "<< >>", "+ -", "* / mod")
        strength = {sign: at for at, line in enumerate(lines) for sign in line.split()}
        unlike = 0
        for one in strength:
            for other in strength:
                for a, b, c in ((7, 5, 3), (1, 2, 4), (9, 2, 2), (3, 1, 6), (5, 4, 9)):
                    texts = f"{a} {one} {b} {other} {c}", f"({a} {one} {b}) {other} {c}", f"{a} {one} ({b} {other} {c})"
                    plain, left, right = [self.told_or_trap(text) for text in texts]
                    self.assertEqual(plain, left if strength[one] >= strength[other] else right, texts)
                    unlike += left != right
        self.assertGreater(unlike, 900)

    def told_or_trap(self, text):
        return run_of("module m; int main() { return " + text + "; }")[1][:2]

    def test_signs_ahead_bind_closer(self):
        ahead = "int a[2] = {7, 3}; int f() { return 5; } struct s { int x; }; struct s t; "
        told = values_of("-a[0]", "!a[1] + 1", "~f() & 7", "-t.x - 1", "- - a.length", "!0 * 5", "-1 * 3 + 4", "~0 >> 1 == -1", ahead=ahead)
        self.assertEqual(told, [TWO32 - 7, 1, 2, TWO32 - 1, 2, 5, 1, 1])

    def test_signs_of_ints_and_uints(self):
        told = values_of(
            "-7 / 2", "-7 mod 2", "-8 >> 1", "-1 < 0", "-1 <= 0", "-1 > 0", "-1 >= 0",
            "-7u / 2", "-7 / 2u", "-7 mod 2u", "-8u >> 1", "-8 >> 1u", "-1 < 0u", "-1u <= 0", "-1 > 0u", "-1 >= 0u",
        )
        self.assertEqual(told, [
            TWO32 - 3, TWO32 - 1, TWO32 - 4, 1, 1, 0, 0,
            (TWO32 - 7) // 2, (TWO32 - 7) // 2, 1, (TWO32 - 8) // 2, TWO32 - 4, 0, 0, 1, 1,
        ])

    def test_kinds_of_what_is_made(self):
        # Each one is compared with 0 or shifted, which tells whether it is a uint.
        ahead = "uint u = 1; int i = 1; int f() { return -1; } uint g() { return -1; } int a[2] = {-1}; uint b[2] = {-1}; "
        ints = (
            "-i", "~i", "i * -1", "i - 2", "-1 << 0u", "(1 ? -i : i)", "f()", "a[0]", "(u < 2u) - 2", "(!u) - 1", "(u && u) - 2", "(u || u) - 2",
            "b.length - 3", "in() - 8", "more() - 2", "-i - 0", "(-1 | 0)", "(-1 >> 1u)", "(u == u) - 2", "(u != u) - 1",
        )
        uints = (
            "-u", "~u", "i - 2 * u", "u - 2", "-1u << 0", "(1 ? -i : u)", "(0 ? u : -i)", "(1 ? u - 2 : i)", "g()", "b[0]", "-i + 0u", "0u - i", "(-1 | 0u)",
            "(-1 ^ 0u)", "(-1 & -1u)", "-1u / 1", "-i - 2147483648 / 1", "-(1u)", "u * -1", "-1 mod 4294967295u - 1",
        )
        for text in ints:
            self.assertEqual(values_of(text + " < 0", ahead=ahead, inputs=(7, 1)), [1], text)
        for text in uints:
            self.assertEqual(values_of(text + " < 0", ahead=ahead, inputs=(7, 1)), [0], text)

    def test_division(self):
        told = values_of("-2147483648 / -1", "-2147483648 mod -1", "-2147483647 / -1", "7 / -2", "7 mod -2", "4294967295 / 2", "4294967295 mod 2")
        self.assertEqual(told, [2147483648 // 4294967295, 2147483648, 2147483647, TWO32 - 3, 1, 2147483647, 1])
        ahead = "int least = -2147483648; int one = -1; "
        self.assertEqual(values_of("least / one", "least mod one", ahead=ahead), [2147483648, 0])

    def test_shifts_by_the_last_five_bits(self):
        self.assertEqual(values_of("1 << 31", "1 << 32", "1 << 33", "-1 >> 32", "-1 >> 31", "8u >> 35"), [2 ** 31, 1, 2, TWO32 - 1, TWO32 - 1, 1])

    def test_and_and_or_work_out_as_little_as_they_need(self):
        self.assertEqual(values_of("7 && 9", "7 && 0", "0 && 7", "0 || 9", "9 || 0", "0 || 0"), [1, 0, 0, 1, 1, 0])
        told = outputs_of("out(noted(0) && noted(5)); out(noted(3) && noted(5)); out(noted(3) || noted(4)); out(noted(0) || noted(6));", NOTED)
        self.assertEqual(told, [0, 0, 3, 5, 1, 3, 1, 0, 6, 1])
        self.assertEqual(outputs_of("out(0 && in()); out(1 || 1 / 0); out(1 || a[5]);", "int a[2]; "), [0, 1, 1])
        self.assertEqual(outputs_of("out(1 ? noted(2) : noted(3)); out(0 ? noted(2) : noted(3));", NOTED), [2, 2, 3, 3])
        self.assertEqual(outputs_of("out(noted(0) && noted(1) || noted(2) && noted(3));", NOTED), [0, 2, 3, 1])

    def test_from_the_left_to_the_right(self):
        self.assertEqual(outputs_of("out(noted(1) + noted(2) * noted(3));", NOTED), [1, 2, 3, 7])
        self.assertEqual(outputs_of("out(in() - in());", inputs=(9, 4)), [5])
        self.assertEqual(outputs_of("out(f(in(), in(), in()));", "int f(int a, int b, int c) { return a * 100 + b * 10 + c; } ", (1, 2, 3)), [123])
        self.assertEqual(outputs_of("out(g + h() + g);", "int g = 1; int h() { g = 5; return 10; } "), [16])
        self.assertEqual(outputs_of("out(a[0] + h() + a[0]);", "int a[1] = {1}; int h() { a[0] = 5; return 10; } "), [16])
        self.assertEqual(outputs_of("int l = 1; out(l + h(l) + l);", "int h(int x) { x = 5; return 10; } "), [12])
        self.assertEqual(outputs_of("out(noted(1) < noted(2)); out(noted(1) > noted(2)); out(noted(2) >= noted(1)); out(noted(2) <= noted(1));", NOTED),
                         [1, 2, 1, 1, 2, 0, 2, 1, 1, 2, 1, 0])
        self.assertEqual(outputs_of("out(s[noted(1)].r[noted(2)]);", "struct t { int r[3]; }; struct t s[2]; " + NOTED), [1, 2, 0])

    def test_brackets_change_nothing(self):
        ahead = "int a[3] = {4, 5, 6}; int f(int x[]) { return x.length; } "
        self.assertEqual(values_of("(a)[1]", "((a)).length", "f((a))", "((7))", "(((a)[(1)]))", ahead=ahead), [5, 3, 3, 7, 5])

    def test_lengths_work_nothing_out(self):
        ahead = "struct t { int r[3]; }; struct t s[2]; int f(int x[]) { return x.length; } int a[4]; int b; " + NOTED
        self.assertEqual(values_of("s[9].r.length", "s[noted(9)].r.length", "s[1 / 0].r.length", "s.length", "f(a)", "f(b)", "f(a[1])", "f(s[1].r)", ahead=ahead),
                         [3, 3, 3, 2, 4, 1, 1, 3])

    def test_words_whatever_their_kind(self):
        ahead = "uint f(int x) { return x; } int g(uint x) { return x; } uint u; int i; "
        self.assertEqual(outputs_of("u = -1; i = u; out(i < 0); out(u < 0); out(f(-1) < 0); out(g(4294967295) < 0); uint w = -1; int v = w; out(v < w); out(v < 0);", ahead),
                         [1, 0, 0, 1, 0, 1])

    def test_in_and_more(self):
        self.assertEqual(outputs_of("while (more()) { out(in()); } out(more());", inputs=(5, 0, TWO32 - 1)), [5, 0, TWO32 - 1, 0])
        self.assertEqual(outputs_of("out(more()); out(more());", inputs=(5,)), [1, 1])


class StatementsTest(unittest.TestCase):
    def test_assignments_work_out_the_place_first(self):
        ahead = "int a[4]; int g; " + NOTED + "int h() { g = 3; out(9); return 7; } "
        self.assertEqual(outputs_of("a[noted(2)] = noted(5); out(a[2]);", ahead), [2, 5, 5])
        self.assertEqual(outputs_of("a[g] = h(); out(a[0]); out(a[3]);", ahead), [9, 7, 0])
        self.assertEqual(outputs_of("g = g + h(); out(g);", ahead), [9, 7])
        ending = run_of(main_of("a[noted(4)] = noted(5);", ahead))
        self.assertEqual(ending[0], (4,))
        self.assertEqual(ending[1][:2], ("trap", "bounds"))

    def test_if(self):
        text = "if (g) out(1); if (!g) out(2); if (g) out(3); else out(4); if (g) { } else if (g + 1) out(5); else out(6); if (g) if (1) out(7); else out(8);"
        self.assertEqual(outputs_of(text, "int g; "), [2, 4, 5])
        self.assertEqual(outputs_of("g = -5; " + text, "int g; "), [1, 3, 7])
        self.assertEqual(outputs_of("if (1) if (0) out(1); else out(2); else out(3);"), [2])

    def test_while(self):
        self.assertEqual(outputs_of("int i; while (i < 3) { out(i); i = i + 1; } out(i);"), [0, 1, 2, 3])
        self.assertEqual(outputs_of("int i; while (i < 9) { i = i + 1; if (i == 2) continue; if (i == 5) break; out(i); } out(i);"), [1, 3, 4, 5])
        self.assertEqual(outputs_of("while (0) out(1);"), [])

    def test_do(self):
        self.assertEqual(outputs_of("int i; do { out(i); i = i + 1; } while (i < 3);"), [0, 1, 2])
        self.assertEqual(outputs_of("do out(1); while (0);"), [1])
        self.assertEqual(outputs_of("int i; do { i = i + 1; if (i == 2) continue; out(i); } while (i < 4);"), [1, 3, 4])
        self.assertEqual(outputs_of("int i; do { i = i + 1; if (i == 4) continue; out(i); } while (i < 4); out(9);"), [1, 2, 3, 9])
        self.assertEqual(outputs_of("int i; do { i = i + 1; if (i == 3) break; out(i); } while (1);"), [1, 2])

    def test_for(self):
        self.assertEqual(outputs_of("for (int i = 0; i < 3; i = i + 1) out(i);"), [0, 1, 2])
        self.assertEqual(outputs_of("for (int i = 0; i < 5; i = i + 1) { if (i == 1) continue; if (i == 4) break; out(i); }"), [0, 2, 3])
        self.assertEqual(outputs_of("int i; for (;;) { if (i == 2) break; out(i); i = i + 1; }"), [0, 1])
        self.assertEqual(outputs_of("int i; for (i = 5; i; i = i - 1) { out(i); } out(i);"), [5, 4, 3, 2, 1, 0])
        self.assertEqual(outputs_of("for (f(1); more(); f(3)) { out(2); out(in()); out(0); }", "void f(int x) { out(x); } ", (7, 8)),
                         [1, 2, 7, 0, 3, 2, 8, 0, 3])
        self.assertEqual(outputs_of("for (int a[2] = {3, 4}; a[0]; a[0] = a[0] - 1) out(a[1]);"), [4, 4, 4])
        self.assertEqual(outputs_of("int i; for (; i < 2; ) { i = i + 1; continue; } out(i);"), [2])

    def test_nested_loops(self):
        text = "for (int i = 0; i < 3; i = i + 1) { for (int j = 0; j < 3; j = j + 1) { if (j == 1) continue; if (i == 1) break; out(i * 10 + j); } out(99); }"
        self.assertEqual(outputs_of(text), [0, 2, 99, 99, 20, 22, 99])
        text = "int i; do { int j; while (1) { j = j + 1; if (j > 2) break; out(j); } i = i + 1; if (i == 2) break; } while (1); out(i);"
        self.assertEqual(outputs_of(text), [1, 2, 1, 2, 2])

    def test_switch(self):
        text = "switch (in()) { case 1: out(1); case -1: out(2); case 7u: { out(3); } case 0: default: out(4); } out(5);"
        for word, told in ((1, [1, 5]), (TWO32 - 1, [2, 5]), (7, [3, 5]), (0, [5]), (2, [4, 5])):
            self.assertEqual(outputs_of(text, inputs=(word,)), told)
        self.assertEqual(outputs_of("switch (noted(3)) { case 1: out(1); case 2: out(2); } out(9); switch (1) { } switch (noted(4)) { default: out(5); }", NOTED),
                         [3, 9, 4, 5])
        self.assertEqual(outputs_of("switch (1) { case 1: int a = 5; out(a); a = 6; } switch (1) { case 1: int a; out(a); }"), [5, 0])

    def test_break_and_continue_in_a_switch(self):
        text = "for (int i = 0; i < 6; i = i + 1) { switch (i) { case 1: continue; case 4: break; default: out(i); } out(i + 100); }"
        self.assertEqual(outputs_of(text), [0, 100, 2, 102, 3, 103])
        # What is left of a switch does not hinder what stands around it.
        text = "int s; for (int i = 0; i < 3; i = i + 1) { switch (i) { case 0: continue; default: s = s + f(i); } } out(s);"
        self.assertEqual(outputs_of(text, "int f(int x) { while (1) { switch (x) { case 1: return 10; default: break; } } return 20; } "), [30])

    def test_declarations(self):
        self.assertEqual(outputs_of("int a; uint b = 5; int c[3]; int d[3] = {7}; out(a); out(b); out(c[0] + c[1] + c[2]); out(d[0]); out(d[1] + d[2]);"), [0, 5, 0, 7, 0])
        self.assertEqual(outputs_of("int a[3] = {noted(1), noted(2)}; out(a[0] * 100 + a[1] * 10 + a[2]);", NOTED), [1, 2, 120])
        self.assertEqual(outputs_of("int a = a; out(a); a = 9; out(f());", "int a = 4; int f() { return a; } "), [4, 4])
        self.assertEqual(outputs_of("int a[2] = {a[1], a[0]}; out(a[0]); out(a[1]);", "int a[3] = {4, 5, 6}; "), [5, 4])

    def test_declarations_that_are_come_to_again(self):
        text = "for (int i = 0; i < 2; i = i + 1) { int a; int b[2]; struct s c; int d[2] = {i}; out(a + b[1] + c.x + c.r[1] + d[1]); out(d[0]); "
        text += "a = 7; b[1] = 8; c.x = 9; c.r[1] = 5; d[0] = 4; d[1] = 6; }"
        self.assertEqual(outputs_of(text, "struct s { int x; int r[2]; }; "), [0, 0, 0, 1])
        text = "int i; while (i < 3) { int a = a; a = a + 1; out(a); i = i + 1; }"
        self.assertEqual(outputs_of(text, "int a = 5; "), [6, 6, 6])

    def test_globals(self):
        ahead = "int a = 5; uint b = -1; int c[4] = {1, -2, 3u}; int d; struct s { int x; int r[2]; }; struct s e; struct s f[2]; "
        text = "out(a); out(b); out(c[0]); out(c[1]); out(c[2]); out(c[3]); out(d); out(e.x + e.r[1] + f[1].r[1]); "
        self.assertEqual(outputs_of(text, ahead), [5, TWO32 - 1, 1, TWO32 - 2, 3, 0, 0, 0])
        text = "f[1].r[1] = 3; f[1].x = 4; f[0].r[1] = 5; e.r[0] = 6; "
        text += "out(f[1].r[1]); out(f[1].x); out(f[0].r[1]); out(f[1].r[0]); out(e.r[0]); out(e.x);"
        self.assertEqual(outputs_of(text, ahead), [3, 4, 5, 0, 6, 0])

    def test_each_run_begins_anew(self):
        modules = checked("module m; int a; int b[2] = {1}; int main() { a = a + 1; b[0] = b[0] + 1; return a * 10 + b[0]; }")
        for _ in range(3):
            self.assertEqual(mean(modules, (), 1, 100)[:2], ((), ("answer", 12)))

    def test_calls_of_void_functions_and_answers_that_are_dropped(self):
        ahead = "int g; void v(int x) { if (x) { g = g + x; return; } g = 100; } int f() { g = g + 1; return 77; } "
        self.assertEqual(outputs_of("v(5); out(g); v(0); out(g); f(); (f()); out(g); ((v(1))); out(g);", ahead), [5, 100, 102, 103])


class CallsTest(unittest.TestCase):
    def test_recursion(self):
        ahead = "int fib(int n) { if (n < 2) return n; return fib(n - 1) + fib(n - 2); } int odd(int n) { if (n == 0) return 0; return even(n - 1); } "
        ahead += "int even(int n) { if (n == 0) return 1; return odd(n - 1); } "
        self.assertEqual(values_of("fib(10)", "odd(7)", "even(7)", ahead=ahead), [55, 1, 0])

    def test_each_call_has_its_own_locals(self):
        ahead = "int f(int n) { int a = n; int b[2] = {n}; if (n > 0) f(n - 1); out(a); out(b[0]); b[1] = 9; return 0; } "
        self.assertEqual(outputs_of("f(2); f(0);", ahead), [0, 0, 1, 1, 2, 2, 0, 0])

    def test_params_are_words_of_the_call(self):
        self.assertEqual(outputs_of("int x = 1; out(f(x)); out(x);", "int f(int x) { x = x + 1; return x; } "), [2, 1])

    def test_slices_of_arrays_structures_and_things(self):
        ahead = "struct s { int x; int r[3]; }; int g; int a[3] = {1, 2, 3}; struct s o; struct s p[2]; uint w[2] = {8, 9}; "
        ahead += "void set(int x[], int at, int word) { x[at] = word; } int sum(int x[]) { int t; for (int i = 0; i < x.length; i = i + 1) t = t + x[i]; return t; } "
        ahead += "void mark(struct s x[]) { for (int i = 0; i < x.length; i = i + 1) { x[i].x = i + 1; x[i].r[2] = 5; } } uint last(uint x[]) { return x[x.length - 1]; } "
        text = "set(a, 1, 7); out(sum(a)); set(g, 0, 4); out(g); set(a[2], 0, 9); out(a[2]); set(o.x, 0, 6); out(o.x); set(o.r, 2, 3); out(sum(o.r)); "
        text += "mark(p); out(p[1].x); out(p[0].r[2]); mark(o); out(o.x); mark(p[1]); out(p[1].x); out(sum(p[1].r)); out(last(w)); out(last(w[0])); "
        text += "int b[2] = {3, 4}; set(b, 0, 5); out(sum(b)); struct s q; mark(q); out(q.x + q.r[2]); set(q.r[1], 0, 2); out(sum(q.r));"
        self.assertEqual(outputs_of(text, ahead), [11, 4, 9, 6, 3, 2, 5, 1, 1, 5, 9, 8, 9, 6, 7])

    def test_slices_handed_on(self):
        ahead = "int a[4] = {1, 2, 3, 4}; void f(int x[], int n) { if (n == 0) { x[0] = 9; out(x.length); return; } f(x, n - 1); } "
        ahead += "void g(int x[], int at) { out(x.length); f(x[at], 1); } "
        self.assertEqual(outputs_of("f(a, 3); out(a[0]); g(a, 2); out(a[2]); int b[2]; g(b, 1); out(b[1]);", ahead), [4, 9, 4, 1, 9, 2, 1, 9])

    def test_a_slice_of_one_knows_its_length(self):
        ahead = "int a[4]; void f(int x[]) { out(x.length); out(x[1]); } "
        for text in ("f(a[2]);", "f(g);", "struct s z; f(z.x);"):
            outputs, ending, _ = run_of(main_of(text, ahead + "int g; struct s { int x; int y; }; "))
            self.assertEqual((outputs, ending[:2]), ((1,), ("trap", "bounds")))

    def test_two_slices_of_one_array(self):
        ahead = "int a[2] = {1, 2}; int f(int x[], int y[]) { x[0] = 5; return y[0]; } "
        self.assertEqual(values_of("f(a, a)", "f(a[1], a)", "a[1]", ahead=ahead), [5, 5, 5])

    def test_names_of_locals_and_functions(self):
        self.assertEqual(outputs_of("int f = 3; out(f(f) + f);", "int f(int f) { return f * 2; } "), [9])

    def test_main_may_be_called(self):
        self.assertEqual(run_of("module m; int n; int main() { n = n + 1; if (n < 4) return main() + 1; return 10; }")[:2], ((), ("answer", 13)))


class TrapsTest(unittest.TestCase):
    def trap(self, text, kind, inputs=(), limit=100, outputs=()):
        """The trap is at the sign behind $."""
        lines = text[:text.index("$")].split("\n")
        place = ("m", len(lines), len(lines[-1]) + 1)
        told = run_of(text.replace("$", ""), inputs, limit)
        self.assertEqual(told[:2], (outputs, ("trap", kind, place)), text)

    def test_bounds(self):
        for index in ("3", "-1", "4294967295", "1 << 31", "a[0] + 3"):
            self.trap("module m; int a[3];\nint main() { out(7); return a$[" + index + "]; }", "bounds", outputs=(7,))
        self.assertEqual(run_of("module m; int a[3]; int main() { return a[2]; }")[1], ("answer", 0))
        self.trap("module m; int a[3]; int main() { a$[3] = 1 / 0; return 0; }", "bounds")
        self.trap("module m; int a[3]; int main() { a[2] = 1 $/ 0; return 0; }", "zero")
        self.trap("module m; struct s { int r[2]; }; struct s t[3]; int main() { return t[2].r$[2]; }", "bounds")
        self.trap("module m; struct s { int r[2]; }; struct s t[3]; int main() { return t$[3].r[2]; }", "bounds")
        self.trap("module m; struct s { int r[2]; }; struct s t[3]; int main() { return t$[3].r[1 / 0]; }", "bounds")
        self.trap("module m; int f(int x[], int i) {\n return x$[i]; } int a[3]; int main() { return f(a, 3); }", "bounds")
        self.trap("module m; int f(int x[]) { return x.length; } int a[3]; int main() { return f(a$[3]); }", "bounds")
        self.trap("module m; int main() { int a[1]; return a$[1]; }", "bounds")
        self.trap("module m; int main() { int a[2]; return a$[a[0] + 2]; }", "bounds")
        self.trap("module m; int main() { int a[2]; return (a)$[(2)]; }", "bounds")

    def test_zero(self):
        for sign in ("/", "mod"):
            self.trap("module m; int z; int main() { return 5 $" + sign + " z; }", "zero")
            self.trap("module m; uint z; int main() { return 5 $" + sign + " z; }", "zero")
            self.trap("module m; int z; int main() {\n  return 1 + 6 / 2 * 5\n   $" + sign + " (z - z); }", "zero")
            self.trap("module m; int z; int main() { return in() $" + sign + " in(); }", "zero", (3, 0))
            self.trap("module m; int z; int main() { return in() " + sign + " $in(); }", "input", (3,))

    def test_input(self):
        self.trap("module m; int main() { return $in(); }", "input")
        self.trap("module m; int main() { out(in());\n out($in()); return 0; }", "input", (5,), outputs=(5,))
        self.trap("module m; int main() { return in() + in( ) + $in(); }", "input", (5, 6))

    def test_told(self):
        self.trap("module m; int main() { assert(1); assert(-1); out(1); $assert(0); return 0; }", "told", outputs=(1,))
        self.trap("module m; int main() {\n\n  if (1) { $assert (1 == 2); } return 0; }", "told")

    def test_stack(self):
        text = "module m; int f(int n) { if (n == 0) return 0; return 1 + $f(n - 1); } int main() { return f(in()); }"
        for limit in (3, 4, 10, 1000):
            self.assertEqual(run_of(text.replace("$", ""), (limit - 2,), limit)[1], ("answer", limit - 2))
            self.trap(text, "stack", (limit - 1,), limit)
        self.trap("module m; void f() { } int main() { out(1); $f(); return 0; }", "stack", (), 1, (1,))
        self.assertEqual(run_of("module m; void f() { } int main() { f(); f(); return 0; }", (), 2)[1], ("answer", 0))
        self.trap("module m; int f(int x) { return x; } int main() { return f($f(1)); }", "stack", (), 1)

    def test_stack_is_looked_at_behind_the_args(self):
        self.trap("module m; int f(int x) { return x; } int main() { return f($in()); }", "input", (), 1)
        self.trap("module m; int f(int x) { return x; } int main() { return $f(in()); }", "stack", (5,), 1)
        self.trap("module m; int f(int x[]) { return 1; } int a[2]; int main() { return f(a$[2]); }", "bounds", (), 1)

    def test_1000_open_calls(self):
        text = "module m; int f(int n) { int a[3]; if (n == 0) return 0; return f(n - 1) + 1; } int main() { return f(998); }"
        self.assertEqual(run_of(text, (), 1000)[1], ("answer", 998))
        self.assertEqual(run_of(text, (), 999)[1][:2], ("trap", "stack"))

    def test_places_of_other_modules(self):
        a = "module a;\nint f(int x) {\n  return 10 / x;\n}"
        m = "module m; use a; int main() { out(f(5)); return f(0); }"
        self.assertEqual(mean(checked(a, m), (), 9, 99)[:2], ((2,), ("trap", "zero", ("a", 3, 13))))

    def test_a_trap_ends_everything(self):
        self.trap("module m; int f() { out(1); return 1 $/ 0; } int main() { out(f()); out(2); return 0; }", "zero", outputs=(1,))


class ModulesTest(unittest.TestCase):
    def test_modules_together(self):
        a = "module a; struct p { int x; int y; }; int count; void add(struct p q[], int n) { for (int i = 0; i < q.length; i = i + 1) { q[i].x = q[i].x + n; count = count + 1; } }"
        b = "module b; use a; struct p both[2]; int sum() { add(both, 3); return both[0].x + both[1].x; }"
        c = "module c; use b; use a; int main() { out(sum()); out(sum()); out(count); both[1].y = 5; struct p z; add(z, 8); return z.x + both[1].y; }"
        modules = checked(a, b, c)
        told = ((6, 12, 4), ("answer", 13))
        self.assertEqual(mean(modules, (), 9, 999)[:2], told)
        self.assertEqual(mean(tuple(reversed(modules)), (), 9, 999)[:2], told)

    def test_hidden_names(self):
        a = "module a; int x = 1; int f() { return x; }"
        b = "module b; use a; int main() { int x = 5; x = x + 1; return f() * 10 + x; }"
        self.assertEqual(mean(checked(a, b), (), 9, 99)[1], ("answer", 16))

    def test_examples(self):
        text = "module m; int row[3] = {5, 7}; int main() { int i = in(); out(row[i]); return 10 / row[2 - i]; }"
        modules = checked(text)
        self.assertEqual([mean(modules, (word,), 1, 100)[:2] for word in (1, 0, 3)], [
            ((7,), ("answer", 1)), ((5,), ("trap", "zero", ("m", 1, 82))), ((), ("trap", "bounds", ("m", 1, 66))),
        ])

    def test_the_greatest_two(self):
        for inputs, told in (((3, 9, 4), 13), ((), 0), ((5,), 5), ((4, 4), 8), ((TWO32 - 1, 2), 2)):
            self.assertEqual(run_of(GREATEST_TWO, inputs)[:2], ((told,), ("answer", 0)))


if __name__ == "__main__":
    unittest.main()

"""[15], [29]: what steps count, and runs that are asked for fewer of them."""

import inspect
import sys
import unittest

from programs import random_program
from support import checked, main_of, run_of
from trueimage.meaning import mean

S = "struct s { int x; int r[3]; }; struct s row[4]; int g; int a[5]; void v() { } int f(int x) { return x; } "
# What main_of itself makes: return and its number.
OWN = 2


class StepsTest(unittest.TestCase):
    def look(self, statements, many, inputs=(), ahead=S):
        """A run of main with these statements counts so many steps, and its own; at most four times that."""
        steps = run_of(main_of(statements, ahead), inputs)[2]
        self.assertGreaterEqual(steps, many + OWN, statements)
        self.assertLessEqual(steps, 4 * (many + OWN), statements)
        return steps

    def more(self, one, other, many):
        """The second one counts at least so many steps more than the first one, and at most four times that."""
        unlike = run_of(main_of(other, S))[2] - run_of(main_of(one, S))[2]
        self.assertGreaterEqual(unlike, many, (one, other))
        self.assertLessEqual(unlike, 4 * many, (one, other))

    def test_statements(self):
        self.look("", 0)
        self.more("", "g = 1;", 2)
        self.more("", "{ }", 1)
        self.more("", "{ { } { } }", 3)
        self.more("", "int x;", 1)
        self.more("", "int x = 5;", 2)
        self.more("", "out(5);", 2)
        self.more("", "assert(5);", 2)
        self.more("", "if (5) { }", 2)
        self.more("", "if (5) g = 1; else g = 2;", 4)
        self.more("", "v();", 2)

    def test_parts(self):
        self.more("", "out(g);", 2)
        self.more("out(g);", "out(g + g);", 2)
        self.more("out(g);", "out(- - -g);", 3)
        self.more("out(g);", "out(a[0]);", 2)
        self.more("out(g);", "out(a.length + 0);", 2)
        self.more("out(5);", "out(1 ? 2 : 3);", 2)
        self.more("out(5);", "out(f(5));", 3)
        self.more("out(0);", "out(0 && 5);", 1)
        self.more("out(0);", "out(1 && 5);", 2)
        self.more("out(0);", "out(1 || 5);", 1)
        self.more("out(row[1].x);", "out(row[1].r[2]);", 2)
        self.look("out(in() + more());", 4, (5,))

    def test_brackets_and_empty_bodies_count_little(self):
        one = run_of(main_of("out(" + "(" * 20 + "5" + ")" * 20 + ");"))[2]
        self.assertEqual(one, run_of(main_of("out(5);"))[2])

    def test_loops(self):
        for many in (0, 1, 2, 50):
            text = str(many)
            # A round: its test, its body, and going back.
            self.look("int i; while (i < " + text + ") { i = i + 1; }", 1 + 1 + 3 + many * (3 + 4 + 1))
            self.look("for (int i = 0; i < " + text + "; i = i + 1) { }", 1 + 2 + 3 + many * (3 + 4 + 1))
            self.look("int i; do { i = i + 1; } while (i < " + text + ");", 1 + 1 + max(many, 1) * (3 + 4) + max(many, 1) - 1)

    def test_cases(self):
        text = "switch (g) { case 1: case 2: case 3: case 0: out(1); case 5: default: }"
        self.look(text, 2 + 4 + 2)
        self.look("switch (7) { case 1: case 2: case 3: case 0: out(1); case 5: default: }", 2 + 5)

    def test_arrays_and_structures(self):
        # Each word once at the call of main, and once where its declaration is come to.
        self.look("int x[200];", 1 + 400)
        self.look("struct s x[50];", 1 + 400)
        self.look("struct s x;", 1 + 8)
        self.look("if (0) { int x[200]; }", 2 + 200)
        self.look("for (int i; i < 9; i = i + 1) { int x[100]; }", 1 + 1 + 3 + 9 * (3 + 4 + 1 + 1 + 100) + 100)
        self.look("f(1); f(1); f(1);", 3 * (4 + 300), (), "int f(int x) { if (0) { int y[150]; int z[150]; } return x; }")

    def test_main_counts_its_words(self):
        for most in (0, 1):
            outputs, ending, steps = run_of(main_of("int x[200];"), (), 1, most)
            self.assertEqual((outputs, ending), ((), ("on",)))
            self.assertGreaterEqual(steps, most)


class MostTest(unittest.TestCase):
    TEXT = (
        "module m; int f(int x) { int a[3] = {1, 2}; out(x + a[1]); return x - 1; } "
        "int main() { int i = 4; while (i) { i = f(i); } out(a()); return 7 / i; } int a() { return more(); }"
    )

    def test_rising_numbers_of_steps(self):
        modules = checked(self.TEXT)
        whole = mean(modules, (), 9, 5000)
        self.assertEqual(whole[0], (6, 5, 4, 3, 0))
        self.assertEqual(whole[1][:2], ("trap", "zero"))
        before = ()
        for most in range(whole[2] + 30):
            told = mean(modules, (), 9, most)
            if most > whole[2]:
                self.assertEqual(told, whole)
            if told[1] == ("on",):
                self.assertGreaterEqual(told[2], most)
                self.assertLessEqual(told[2], whole[2])
            else:
                self.assertEqual(told, whole)
            self.assertEqual(whole[0][:len(told[0])], told[0])
            self.assertEqual(told[0][:len(before)], before)
            before = told[0]

    def test_a_run_that_has_ended_by_then_tells_its_ending(self):
        modules = checked(self.TEXT)
        whole = mean(modules, (), 9, 5000)
        self.assertEqual(mean(modules, (), 9, whole[2]), whole)
        self.assertEqual(mean(modules, (), 9, whole[2] - 1)[1], ("on",))
        for text in (main_of(""), main_of("int a[3]; v();", S), "module m; int main() { int x; x = 1; return x; }"):
            whole = run_of(text, (), 9)
            self.assertEqual(whole[1][0], "answer")
            self.assertEqual(run_of(text, (), 9, whole[2] + 1), whole)
            self.assertEqual(run_of(text, (), 9, whole[2] - 1)[1], ("on",))

    def test_runs_without_an_end(self):
        for text in ("while (1) { }", "for (;;) { }", "do { } while (1);", "while (1) continue;", "for (;;) { continue; }", "do continue; while (1);",
                     "while (1) { while (1) break; }", "for (;;) { int a[9]; }", "while (1) switch (1) { }"):
            for most in (0, 1, 7, 500, 20000):
                outputs, ending, steps = run_of(main_of(text), (), 1, most)
                self.assertEqual((outputs, ending), ((), ("on",)), text)
                self.assertGreaterEqual(steps, most)
                self.assertLess(steps, most + 50)

    def test_200000_steps(self):
        text = "module m; int f(int n) { if (n < 2) return n; return f(n - 1) + f(n - 2); } int main() { int i; while (1) { out(f(i)); i = i + 1; } return 0; }"
        told = run_of(text, (), 1000, 200000)
        self.assertEqual(told[1], ("on",))
        self.assertGreaterEqual(told[2], 200000)
        self.assertEqual(told[0][:10], (0, 1, 1, 2, 3, 5, 8, 13, 21, 34))

    def test_what_grows(self):
        # [29]: no more inputs, outputs and words than steps.
        for seed in range(50):
            text, _, _ = random_program(seed)
            modules = checked(text)
            for most in (0, 3, 50, 400):
                outputs, _, steps = mean(modules, tuple(range(20)), 9, most)
                self.assertLessEqual(len(outputs), steps)

    def test_equal_answers_and_unchanged_arguments(self):
        modules = checked(self.TEXT)
        again = checked(self.TEXT)
        inputs = (1, 2, 3)
        self.assertEqual(mean(modules, inputs, 9, 5000), mean(tuple(again), (1, 2, 3), 9, 5000))
        self.assertEqual(modules, again)
        outputs, ending, steps = mean(modules, inputs, 9, 5000)
        self.assertIsInstance(outputs, tuple)
        self.assertIsInstance(ending, tuple)
        self.assertIsInstance(steps, int)


class DeepTest(unittest.TestCase):
    """[2], L11: no recursion deeper than a few hundred calls, however long a text and however deep a run is."""

    def test_long_texts_and_deep_runs(self):
        texts = (
            main_of("out(" + "- " * 119 + "1);"),
            main_of("{" * 29 + "}" * 29),
            main_of("if (0) { } else " * 28 + "out(1);"),
            main_of("while (0) " * 28 + "out(1);"),
            main_of("out(" + "(" * 27 + "1" + ")" * 27 + ");"),
            main_of("out(" + "1 + " * 59 + "1);"),
            main_of("out(" + "1 ? 2 : " * 28 + "3);"),
            main_of("int x; " + "x = x + 1; " * 2600),
            main_of("int x; " + "{ x = 1; } " * 2000),
            "module m; int f(int n) { if (n) return f(n - 1) + 1; return 0; } int main() { return f(998); }",
        )
        usual = sys.getrecursionlimit()
        try:
            sys.setrecursionlimit(len(inspect.stack()) + 250)
            for text in texts:
                self.assertEqual(run_of(text, (), 1000, 200000)[1][0], "answer")
        finally:
            sys.setrecursionlimit(usual)


if __name__ == "__main__":
    unittest.main()

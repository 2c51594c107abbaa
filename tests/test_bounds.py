"""[8]: the bounds of what stands within one another, and of the pieces of a whole expression.

In the texts here a $ stands ahead of the piece that is wrong, and is no sign of the text itself.
"""

import unittest

from support import place_of_fault
from texts import random_text


def cleaned(text):
    return text.replace("$", "")


def place_marked(text):
    """The place of the piece behind the $, None without one."""
    if "$" not in text:
        return None
    ahead = text[:text.index("$")].split("\n")
    return (len(ahead), len(ahead[-1]) + 1)


def in_main(statements):
    return "module m; int main() { " + statements + " }"


def in_global(expression):
    return "module m; int a = " + expression + ";"


class Bounds(unittest.TestCase):
    def look(self, text):
        self.assertEqual(place_of_fault(cleaned(text)), place_marked(text), text)

    def look_deep(self, depth, statement):
        """Look at a statement that is one so deep within others."""
        self.look(in_main("{ " * (depth - 1) + statement + " }" * (depth - 1)))


class RandomBoundsTest(Bounds):
    def test_random_texts(self):
        right, wrong = 0, 0
        for seed in range(1500):
            begin = (1, 8, 20, 26, 29)[seed % 5]
            text, place = random_text(seed, begin, (0.2, 0.5, 0.97)[seed % 3])
            self.assertEqual(place_of_fault(text), place, text)
            right += place is None
            wrong += place is not None
        self.assertGreater(right, 200)
        self.assertGreater(wrong, 200)


# Ahead of a statement that stands one deeper, and behind it.
FORMS = (
    ("{ ", " }"), ("{ ", " break; { } }"), ("if (1) ", ""), ("if (1) { } else ", ""), ("if (1) break; else ", ""),
    ("while (1) ", ""), ("do ", " while (1);"), ("for (;;) ", ""), ("for (int i = 0; i < 1; i = i + 1) ", ""),
    ("for (i = 0; ; f()) ", ""), ("switch (1) { case 1: ", " }"), ("switch (1) { default: ", " }"),
    ("switch (1) { case 1: case -2: break; default: break; ", " }"),
)

# Statements that hold no others and no expressions.
BARE = ("break;", "continue;", "return;", "{ }", "int a;", "uint a[2];", "struct s a;", "int a[2] = { };")

# Statements with whole expressions, of which one is marked.
WITH_EXPRESSIONS = (
    "if ($1) { }", "while ($1) { }", "switch ($1) { }", "return $1;", "out($1);", "assert($1);", "int a = $1;",
    "int a[1] = { $1 };", "$a = 1;", "$f();", "$5 = 6;", "for ($i = 0; ;) { }", "for (int i = $0; ;) { }",
    "for (; $1; ) { }", "for (; ; $f()) { }", "for ($f(); ;) { }", "for (; ; $i = 1) { }",
)

# Ahead of an expression within another one, behind it, and the innermost one with the first piece that is deeper.
WITHIN = (
    ("(", ")", "($1)"), ("a[", "]", "a[$1]"), ("f(", ")", "f($1)"), ("f(1, ", ")", "f($1, 1)"),
    ("f(", ", 1)", "f($1, 1)"), ("a ? ", " : b", "a ? $1 : b"), ("a ? b : ", "", "a ? $b : 1"),
    ("1 + (", ") * 2", "1 + ($1) * 2"), ("!(", ")", "!($- 1)"), ("- - a[", "].x[1]", "a[$-1].x[1]"),
    ("(a ? ", " : b)", "($a ? 1 : b)"), ("a[1][", "]", "a[$1][1]"), ("f(1, 2, ", ", 3).length", "f($1, 2).length"),
)


class StatementsWithinTest(Bounds):
    def test_each_form_just_so_and_passed_by_one(self):
        for ahead, behind in FORMS:
            for inner in BARE:
                # A declaration can't stand alone.
                if inner[0] in "ius" and " }" not in behind:
                    inner = "{ }"
                self.look_deep(29, ahead + inner + behind)
                # Elsewhere an expression of the form stands as deep as the inner statement.
                if "(1)" not in ahead and "= 0" not in ahead:
                    self.look_deep(30, ahead + "$" + inner + behind)
        self.look_deep(30, "for (;;) $break;")
        self.look_deep(30, "do $break; while (1);")
        self.look_deep(30, "if ($1) break;")
        self.look_deep(30, "switch ($1) { case 1: break; }")

    def test_each_form_within_itself(self):
        for ahead, behind in FORMS:
            if "int i" in ahead or "i = 0" in ahead:
                continue
            self.look(in_main(ahead * 29 + "break;" + behind * 29))
            if "(1)" not in ahead or ahead == "do ":
                self.look(in_main(ahead * 30 + "$break;" + behind * 30))
            else:
                at = ahead.index("(1)") + 1
                self.look(in_main(ahead * 29 + ahead[:at] + "$" + ahead[at:] + "break;" + behind * 30))

    def test_bare_statements_and_the_next_one(self):
        for inner in BARE:
            self.look_deep(30, inner)
            self.look_deep(31, "$" + inner)
        for wrong in (";", ")", "else", "5", "@"):
            self.look_deep(31, "$" + wrong)
        self.look("module m; int main() { " + "{ " * 30 + "$")

    def test_else_if_is_one_deeper_each_time(self):
        self.look(in_main("if (1) { } else " * 28 + "if (1) { } else { }"))
        self.look(in_main("if (1) { } else " * 28 + "if (1) { } else if ($1) { }"))
        self.look_deep(2, "if (1) { } else " * 27 + "if (1) { } else if ($1) break;")

    def test_first_and_step_are_no_statements_of_their_own(self):
        self.look_deep(29, "for (i = 0; i < 1; i = i + 1) { }")
        self.look_deep(30, "for (int i; ; ) ${ }")
        self.look_deep(30, "for ($i = 0; ; ) { }")

    def test_many_side_by_side(self):
        self.look(in_main("{ }" * 200 + "if (1) { } " * 200 + "int a; " * 200))
        self.look_deep(30, "break; " * 500)

    def test_braces_of_functions_are_no_statements(self):
        self.look("module m; void f() {" + " {" * 30 + " }" * 30 + " }")
        self.look("module m; void f() {" + " {" * 30 + " ${ }" + " }" * 30 + " }")


class ExpressionsWithinTest(Bounds):
    def test_a_whole_expression_is_one_deeper_than_its_statement(self):
        for statement in WITH_EXPRESSIONS:
            self.look_deep(29, cleaned(statement))
            self.look_deep(30, statement)

    def test_each_form_in_statements(self):
        for ahead, behind, inner in WITHIN:
            for many in range(5):
                # Such a bracket with ? : in it is two deeper.
                deeper = 2 * many if ahead == "(a ? " else many
                text = "out(" + ahead * many + inner + behind * many + ");"
                self.look_deep(28 - deeper, cleaned(text).replace("(a ? 1 : b)", "(a)"))
                self.look_deep(29 - deeper, text)
        self.look_deep(28, "f(1);")
        self.look_deep(29, "f($1);")
        self.look_deep(27, "(f(1));")
        self.look_deep(28, "(f($1));")
        self.look_deep(29, "($f(1));")
        self.look_deep(29, "a[$1] = 2;")
        self.look_deep(29, "a = b[$1];")

    def test_globals(self):
        self.look(in_global("(" * 29 + "1" + ")" * 29))
        self.look(in_global("(" * 30 + "$1" + ")" * 30))
        self.look("module m; int a[2] = { 1, " + "(" * 29 + "1" + ")" * 29 + "};")
        self.look("module m; int a[2] = { 1, " + "(" * 30 + "$-1" + ")" * 30 + "};")

    def test_each_form_in_globals(self):
        for ahead, behind, inner in WITHIN:
            if ahead != "(a ? ":
                self.look(in_global("(" * 25 + ahead * 4 + "1" + behind * 4 + ")" * 25))
                self.look(in_global("(" * 26 + ahead * 3 + inner + behind * 3 + ")" * 26))

    def test_the_middle_and_the_last_one(self):
        self.look(in_global("a ? b : " * 29 + "c"))
        self.look(in_global("a ? b : " * 29 + "a ? $b : c"))
        self.look(in_global("a ? " * 29 + "b" + " : c" * 29))
        self.look(in_global("a ? " * 30 + "$b" + " : c" * 30))
        self.look(in_global("a ? b : " * 29 + "($c)"))

    def test_no_args_and_signs_go_no_deeper(self):
        self.look(in_global("(" * 29 + "f() + in() + more() + - ! ~ a.x.length" + ")" * 29))
        self.look(in_global("(" * 29 + "f($1)" + ")" * 29))
        self.look(in_global("(" * 29 + "a[$1]" + ")" * 29))
        self.look(in_global("(" * 29 + "a ? $1 : 2" + ")" * 29))
        self.look(in_global("(" * 29 + "f($@" + ")" * 29))

    def test_the_depth_goes_back(self):
        self.look(in_global(" + ".join(["f(a[(b ? c : d)])"] * 8)))
        self.look(in_global("f(" + ", ".join(["(1)"] * 20) + ")"))
        self.look(in_global("a" + "[(1)]" * 23))
        self.look(in_main("out(((1))); " * 40))


class PiecesOfExpressionsTest(Bounds):
    def test_rows_of_signs(self):
        for sign in ("- ", "!", "~"):
            for many in (119, 120, 121, 5000):
                mark = "" if many < 120 else "$"
                for atom in ("7", "x", "in()", "more()", "f()", "f(a)", "(a)"):
                    if many >= 120 or atom not in ("f(a)", "(a)"):
                        self.look(in_global(sign * many + mark + atom))
            self.look(in_global(sign * 118 + "(a)"))
            self.look(in_global(sign * 119 + "($a)"))
            self.look(in_global(sign * 117 + "f(a)"))
            self.look(in_global(sign * 118 + "f($a)"))
            self.look(in_global(sign * 119 + "f($a)"))
            self.look(in_global(sign * 119 + "f()"))

    def test_rows_of_signs_without_an_end(self):
        for many in (119, 120, 9000):
            self.look("module m; int a = " + "-" * many + "$;")
            self.look("module m; int a = " + "!" * many + "$)")
            self.look("module m; int a = " + "~" * many + "$")

    def test_indices_fields_and_lengths(self):
        for many, behind in (
            (117, "[1]"), (118, "[$1]"), (119, "$[1]"), (118, ".x"), (119, "$.x"), (118, ".length"), (119, "$.length"),
        ):
            self.look(in_global("- " * many + "a" + behind))
        self.look(in_global("- " * 114 + "f(1)[2]$.x"))
        self.look(in_global("- " * 115 + "f(1)[$2].x"))
        self.look(in_global("- " * 116 + "f(1)$[2].x"))

    def test_what_may_come_later(self):
        # Signs, what closes, and what goes on may be the 121st piece.
        self.look(in_global("- " * 119 + "a + $a"))
        self.look(in_global("- " * 119 + "a ? $a : a"))
        self.look(in_global("- " * 117 + "a ? a : $a"))
        self.look(in_global("- " * 119 + "in()"))
        self.look(in_global("- " * 119 + "a == ! - ~ $a"))
        self.look(in_global("(" * 29 + "- " * 90 + "a" + ")" * 29))
        self.look(in_global("(" * 29 + "- " * 91 + "$a" + ")" * 29))
        self.look(in_global("f(" + "- " * 115 + "a, a, $a)"))
        self.look(in_global("f(" + "- " * 115 + "a, a, " + "- " * 80 + "$a)"))

    def test_pieces_side_by_side(self):
        self.look(in_global("a + " * 59 + "a"))
        self.look(in_global("a + " * 60 + "$a"))
        self.look(in_global("a" + "[1]" * 39 + " + a"))
        self.look(in_global("a" + "[1]" * 39 + " + a$[1]"))
        self.look(in_global("a" + "[1]" * 39 + "[1]"))
        self.look(in_global("- a" + "[1]" * 39 + "[$1]"))
        self.look(in_global("- - a" + "[1]" * 39 + "$[1]"))
        self.look(in_global("a" + ".x" * 59))
        self.look(in_global("a" + ".x" * 59 + ".x"))
        self.look(in_global("a" + ".x" * 60 + "$.x"))
        self.look(in_global("- a" + ".x" * 59 + "$.length"))

    def test_the_signs_of_statements_are_not_counted(self):
        whole = "- " * 119 + "a"
        more = "- " * 120 + "$a"
        for ahead, behind in (
            ("if (", ") { }"), ("while (", ") { }"), ("do { } while (", ");"), ("for (; ", "; ) { }"), ("switch (", ") { }"),
            ("return ", ";"), ("out(", ");"), ("assert(", ");"), ("int b = ", ";"), ("int b[1] = {", "};"),
            ("int b[3] = {1, 2, ", "};"), ("b = ", ";"), ("", " = 1;"), ("for (b = ", "; ; ) { }"), ("for (; ; b = ", ") { }"),
            ("for (int b = ", "; ; ) { }"), ("for (; ; ", " = 1) { }"),
        ):
            self.look(in_main(ahead + whole + behind))
            self.look(in_main(ahead + more + behind))
        self.look(in_main(whole + " = " + whole + ";"))
        self.look(in_main(whole + " = " + more + ";"))
        self.look(in_main("int b[3] = {" + whole + ", " + whole + "};"))
        self.look(in_main("f(" + "- " * 117 + "a);"))
        self.look(in_main("f(" + "- " * 118 + "$a);"))
        self.look(in_main("(f(" + "- " * 116 + "a));"))
        self.look(in_main("(f(" + "- " * 117 + "$a));"))

    def test_which_comes_first(self):
        self.look(in_global("- " * 120 + "$]"))
        self.look(in_global("a + " * 30 + "$)" + " + a" * 100))
        self.look(in_global("a + " * 60 + "$a @"))
        self.look(in_global("a + " * 60 + "$@"))
        self.look("module m; int a = " + "(" * 30 + "$@")
        self.look("module m; int a = " + "(" * 30 + "$")


if __name__ == "__main__":
    unittest.main()

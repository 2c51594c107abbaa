"""[9] to [12]: checking."""

import unittest

from support import GREATEST_TWO, WORDS_OF_WHY, checked, fault_of, main_of
from trueimage.checker import check_module, header_of
from trueimage.errors import BadProgram
from trueimage.reader import read_module


class Checking(unittest.TestCase):
    def right(self, *texts):
        error = fault_of(*texts)
        self.assertIsNone(error, (texts, error and (error.place, error.why)))

    def wrong(self, *texts):
        """The last one of the texts is wrong."""
        error = fault_of(*texts)
        self.assertIsNotNone(error, texts)
        module, line, column = error.place
        self.assertEqual(module, texts[-1].split()[1].strip(";"))
        self.assertGreaterEqual(line, 1)
        self.assertGreaterEqual(column, 1)
        self.assertIn(error.why, WORDS_OF_WHY)
        return error.why

    def wrong_why(self, why, *texts):
        self.assertEqual(self.wrong(*texts), why, texts)


S = "struct s { int x; uint y; int r[3]; }; struct s one; struct s row[4]; int g; uint u; int a[5]; uint b[5]; "
F = "void v() { } int f(int x) { return x; } int of(int x[]) { return x[0]; } int us(uint x[]) { return x.length; } " \
    "int ss(struct s x[]) { return x.length; } "


class ExpressionsTest(Checking):
    def right_main(self, statements):
        self.right(main_of(statements, S + F))

    def wrong_main(self, why, statements):
        self.wrong_why(why, main_of(statements, S + F))

    def test_names(self):
        self.right_main("out(g); int z; out(z);")
        self.wrong_main("no such name", "out(z);")
        self.wrong_main("no such name", "out(f);")
        self.wrong_main("no such name", "out(z.length);")
        self.wrong_main("no such name", "z = 1;")
        self.wrong_main("no such name", "out(0 && z);")
        self.wrong_main("no such name", "return 0; out(z);")
        self.wrong_main("no such name", "out(s);")

    def test_functions(self):
        self.right_main("v(); f(1); out(f(f(2))); (f(3)); int f; f = f(f);")
        self.wrong_main("no such function", "h();")
        self.wrong_main("no such function", "g();")
        self.wrong_main("no such function", "out(h(1));")
        self.wrong_main("no such function", "int z; z();")

    def test_numbers_of_arguments(self):
        self.wrong_main("number of arguments", "f();")
        self.wrong_main("number of arguments", "f(1, 2);")
        self.wrong_main("number of arguments", "v(1);")
        self.wrong_main("number of arguments", "out(of());")
        self.wrong_main("number of arguments", "of(a, 5);")

    def test_structures_and_fields(self):
        self.right_main("struct s z; z.x = 1; z.r[2] = one.x; out(row[1].r.length); out((one).x); out((row)[0].y);")
        self.wrong_main("no such structure", "struct t z;")
        self.wrong_main("no such structure", "struct g z;")
        self.wrong_main("no such field", "out(one.z);")
        self.wrong_main("no such field", "out(row[0].s);")
        self.wrong_main("no object", "out(g.x);")
        self.wrong_main("no object", "out(row.x);")
        self.wrong_main("no object", "out(a.x);")
        self.wrong_main("no object", "out(5 .x);")
        self.wrong_main("no object", "out(f(1).x);")
        self.wrong_main("no object", "out(one.x.x);")
        self.wrong_main("no object", "out(v().x);")

    def test_arrays(self):
        self.right_main("out(a[1]); out((a)[1]); out(one.r[one.x]); out(row[1].r[2]); out(row[1].x);")
        for text in ("g[1]", "5[1]", "one[1]", "f(1)[1]", "a[1][1]", "one.x[1]", "(a[1])[2]", "v()[1]", "row[1].r[1][1]", "a.length[1]"):
            self.wrong_main("no array", "out(" + text + ");")

    def test_lengths(self):
        self.right_main("out(a.length); out(row.length); out(row[7].r.length); out((a).length); out(row[in()].r.length);")
        for text in ("g.length", "one.length", "5 .length", "row[1].length", "a[1].length", "f(1).length", "v().length", "a.length.length"):
            self.wrong_main("no array", "out(" + text + ");")
        self.wrong_main("no word", "out(row[a].r.length);")

    def test_words(self):
        for text in ("a", "one", "row", "row[1]", "one.r", "v()"):
            for form in (
                "out(@);", "assert(@);", "int z = @;", "g = @;", "return @;", "out(@ + 1);", "out(1 + @);", "out(!@);", "out(-@);",
                "out(~@);", "out(a[@]);", "out(f(@));", "if (@) { }", "while (@) { }", "do { } while (@);", "for (; @; ) { }",
                "switch (@) { }", "out(@ ? 1 : 2);", "out(1 ? @ : 2);", "out(1 ? 2 : @);", "out(@ && 1);", "out(1 && @);",
                "out(@ || 1);", "out(1 || @);", "int z[2] = {@};", "out(@ == @);", "out(1 << @);", "out((@));",
            ):
                self.wrong_main("no word", form.replace("@", text))

    def test_places_of_assignments(self):
        self.right_main("g = 1; a[1] = 2; one.x = 3; row[1].r[2] = 4; (g) = 5; (a)[1] = 6; int z; z = 7; (((one).x)) = 8;")
        for text in ("a", "one", "row", "row[1]", "one.r", "5", "f(1)", "v()", "g + 1", "-g", "(g ? g : g)", "a.length", "in()", "more()", "!g"):
            self.wrong_main("no word", text + " = 1;")

    def test_slices(self):
        self.right_main(
            "of(a); of(g); of(a[1]); of(one.r); of(one.x); of(row[1].r); of(row[1].r[1]); of(row[1].x); us(b); us(u); us(one.y); "
            "ss(row); ss(one); ss(row[1]); int z[2]; of(z); of(z[1]); struct s y; of(y.r); of(y.x); ss(y); struct s w[2]; ss(w); "
            "ss(w[1]); of((a)); of((g)); ss((one));"
        )
        for text in (
            "of(1)", "of(b)", "of(u)", "of(one)", "of(row)", "of(one.y)", "us(a)", "us(g)", "us(one.x)", "us(one.r)", "ss(a)", "ss(g)",
            "of(f(1))", "of(g + 1)", "of(-g)", "of(a.length)", "of(in())", "of(1 ? g : g)", "of(v())", "ss(one.r)", "us(1u)",
        ):
            self.wrong_main("kind", "out(" + text + ");")

    def test_no_local_word_and_no_param_for_a_slice(self):
        self.wrong_main("kind", "int z; of(z);")
        self.wrong_main("kind", "int z; of((z));")
        self.wrong_why("kind", main_of("", S + F + "void h(int x) { of(x); }"))
        self.right(main_of("", S + F + "void h(int x[]) { of(x); of(x[0]); } void k(struct s x[]) { ss(x); ss(x[1]); of(x[0].r); of(x[0].x); }"))
        self.wrong_why("kind", main_of("", S + F + "void h(uint x[]) { of(x); }"))
        self.wrong_why("kind", main_of("", S + F + "void h(struct s x[]) { of(x); }"))
        self.wrong_why("no word", main_of("", S + F + "void h(int x[]) { f(x); }"))
        self.wrong_why("no word", main_of("", S + F + "void h(int x[]) { x = 1; }"))
        self.wrong_why("no object", main_of("", S + F + "void h(struct s x[]) { out(x.x); }"))

    def test_void(self):
        self.right_main("v(); (v()); for (v(); ; v()) { break; }")
        self.wrong_main("no word", "out(v());")
        self.wrong_main("no word", "f(v());")


class NamesTest(Checking):
    def test_globals_and_functions_have_one_space(self):
        self.right("module m; int a; int b; void c() { }")
        for text in ("int a; int a;", "int a; uint a[3];", "int a; void a() { }", "void a() { } int a(int x) { return x; }", "void a() { } int a;"):
            self.wrong_why("told twice", "module m; " + text)

    def test_structures_have_another_space(self):
        self.right("module m; struct a { int a; }; int a; struct b { int a; }; void b() { }")
        self.wrong_why("told twice", "module m; struct a { int x; }; struct a { int y; };")

    def test_fields_and_params(self):
        self.right("module m; struct a { int x; int y; }; void f(int x, int y[]) { } void h(int f, int h) { }")
        self.wrong_why("told twice", "module m; struct a { int x; uint x; };")
        self.wrong_why("told twice", "module m; struct a { int x; int x[2]; };")
        self.wrong_why("told twice", "module m; void f(int x, int x) { }")
        self.wrong_why("told twice", "module m; void f(int x, int y, uint x[]) { }")

    def test_locals_hide_globals_and_functions(self):
        self.right("module m; int a[3]; void f(int a) { a = 1; int f; f = a; int g = f; g = g; } void g() { f(1); }")
        self.wrong_why("no array", "module m; int a[3]; void f(int a) { a[1] = 1; }")
        self.right("module m; int a[3]; void f() { a[1] = 1; int a; a = 1; }")
        self.wrong_why("no array", "module m; int a[3]; void f() { int a; a[1] = 1; }")

    def test_in_sight_behind_the_declaration(self):
        self.right("module m; int a; void f() { int a = a; }")
        self.wrong_why("no such name", "module m; void f() { int a = a; }")
        self.wrong_why("no such name", "module m; void f() { int a[2] = {1, a[0]}; }")
        self.wrong_why("no such name", "module m; void f() { a = 1; int a; }")
        self.wrong_why("no such name", "module m; void f() { for (int i = i; ; ) { } }")
        self.right("module m; int a[3]; void f() { int a[2] = {1, a[0]}; }")

    def test_no_local_again_while_it_is_in_sight(self):
        for text in (
            "int a; int a;", "int a; { int a; }", "int a; { { uint a[2]; } }", "{ int a; int a; }", "int a; if (1) { int a; }",
            "int a; for (int a; ; ) { }", "for (int a; ; ) { int a; }", "int a; while (1) { int a; }", "int a; do { int a; } while (1);",
            "int a; switch (1) { case 1: int a; }", "switch (1) { case 1: int a; { int a; } }", "int a; switch (1) { default: int a; }",
            "int x;", "{ int x; }", "for (int x; ; ) { }", "int y;",
        ):
            self.wrong_why("told twice", "module m; void f(int x, int y[]) { " + text + " }")

    def test_out_of_sight_again(self):
        for text in (
            "{ int a; } int a;", "{ int a; } { int a; }", "for (int a; ; ) { } int a;", "for (int a; ; ) { } for (int a; ; ) { }",
            "switch (1) { case 1: int a; case 2: int a; default: int a; } int a;", "if (1) { int a; } else { int a; } int a;",
            "while (1) { int a; } do { int a; } while (1); int a;", "for (int a; a; a = 1) { out(a); } int a;",
            "for (int a; ; ) { { int b; } int b; } int b;",
        ):
            self.right("module m; void f() { " + text + " }")
        for text in (
            "{ int a; } a = 1;", "for (int a; ; ) { } a = 1;", "switch (1) { case 1: int a; case 2: a = 1; }",
            "switch (1) { case 1: int a; default: a = 1; }", "switch (1) { case 1: int a; } a = 1;", "if (1) { int a; } else { a = 1; }",
            "do { int a; } while (a);", "while (1) { int a; } a = 1;", "for (; ; a = 1) { int a; }",
        ):
            self.wrong_why("no such name", "module m; void f() { " + text + " }")


class KindsTest(Checking):
    def test_numbers_of_things(self):
        for many in ("1", "2", "256", "0x100", "256u"):
            self.right("module m; int a[" + many + "];")
            self.right("module m; struct s { uint a[" + many + "]; };")
            self.right("module m; void f() { uint a[" + many + "]; }")
        for many in ("0", "257", "4294967295", "0x0", "0u", "256256"):
            self.wrong_why("length", "module m; int a[" + many + "];")
            self.wrong_why("length", "module m; struct s { int a[" + many + "]; };")
            self.wrong_why("length", "module m; void f() { uint a[" + many + "]; }")

    def test_structures(self):
        self.wrong_why("no field", "module m; struct s { };")
        self.right("module m; struct s { int a; };")
        self.right("module m; struct s { int a[255]; int b; };")
        self.right("module m; struct s { int a[128]; int b[128]; };")
        self.wrong_why("length", "module m; struct s { int a[256]; int b; };")
        self.wrong_why("length", "module m; struct s { int a[128]; int b; int c[128]; };")

    def test_words_of_locals(self):
        for size, many in ((256, 1), (128, 2), (1, 256), (3, 85), (100, 2)):
            structure = "module m; struct s { int a[" + str(size) + "]; }; "
            self.right(structure + "void f() { struct s a; struct s b[" + str(many) + "]; }")
        for size, many in ((256, 2), (128, 3), (2, 129), (3, 86), (100, 3), (129, 2)):
            structure = "module m; struct s { int a[" + str(size) + "]; }; "
            self.wrong_why("length", structure + "void f() { struct s b[" + str(many) + "]; }")
        self.right("module m; void f() { int a[256]; int b[256]; uint c[256]; }")

    def test_words_of_globals(self):
        for size, many in ((16, 256), (256, 16), (17, 240), (1, 256)):
            self.right("module m; struct s { int a[" + str(size) + "]; }; struct s b[" + str(many) + "];")
        for size, many in ((17, 256), (256, 17), (17, 241)):
            self.wrong_why("length", "module m; struct s { int a[" + str(size) + "]; }; struct s b[" + str(many) + "];")

    def test_params(self):
        self.right("module m; void f(int a, int b, int c, int d, int e, int f, uint g) { }")
        self.right("module m; void f(int a[], uint b[], int c[], int d) { }")
        self.wrong_why("length", "module m; void f(int a, int b, int c, int d, int e, int f, uint g, int h) { }")
        self.wrong_why("length", "module m; void f(int a[], uint b[], int c[], int d[]) { }")
        self.wrong_why("length", "module m; void f(int a[], uint b[], int c[], int d, int e) { }")
        self.right("module m; struct s { int x; }; void f(struct s a[], struct s b[], struct s c[], int d) { }")
        self.wrong_why("kind", "module m; struct s { int x; }; void f(struct s a) { }")
        self.wrong_why("kind", "module m; struct s { int x; }; struct s f() { }")
        self.wrong_why("no such structure", "module m; void f(struct s a[]) { }")
        self.wrong_why("no such structure", "module m; struct s a;")
        self.right("module m; struct s a; void f(struct s a[]) { } struct s { int x; };")

    def test_firsts_of_globals(self):
        for text in (
            "int a = 5;", "int a = -5;", "uint a = (5);", "int a = (-5);", "int a = -(5);", "int a = ((-((5))));", "int a = 4294967295;",
            "int a[3] = {};", "int a[3] = {1};", "int a[3] = {1, -2, (3)};", "uint a[1] = {5u};", "int a = -4294967295;",
        ):
            self.right("module m; " + text)
        for text in (
            "int a = 1 + 2;", "int a = b;", "int a = ~5;", "int a = !5;", "int a = - -5;", "int a = -b;", "int a = in();", "int a = f();",
            "int a[2] = {1, 1 + 1};", "int a[2] = {b};", "int a = 1 ? 2 : 3;", "int a = c[0];", "int a = c.length;", "int a = -(-5);",
        ):
            self.wrong_why("no number", "module m; int b; int c[3]; int f() { return 1; } " + text)

    def test_firsts_of_other_forms(self):
        structure = "struct s { int x; int y; }; "
        for text in ("int a = {1};", "int a = {};", "uint a = {1};", "int a[3] = 1;", "int a[1] = 1;", "struct s a = 1;", "struct s a = {1};",
                     "struct s a = {};", "struct s a[2] = {1};", "struct s a[2] = {};", "struct s a[2] = 1;"):
            self.wrong_why("kind", "module m; " + structure + text)
            self.wrong_why("kind", "module m; " + structure + "void f() { " + text + " }")
        for text in ("int a[3] = {1, 2, 3, 4};", "int a[1] = {1, 2};"):
            self.wrong_why("length", "module m; " + text)
            self.wrong_why("length", "module m; void f() { " + text + " }")

    def test_firsts_of_locals(self):
        self.right(main_of("int a = g + 1; uint b = -f(a); int c[3] = {a, b, in()}; int d[2] = {}; int e[2] = {c[0]};", S + F))
        self.wrong_why("no word", main_of("int z = a;", S + F))
        self.wrong_why("no such name", main_of("int z[2] = {1, q};", S + F))


class WaysTest(Checking):
    def right_body(self, text):
        self.right("module m; int f(int x) { " + text + " }")

    def wrong_body(self, text):
        self.wrong_why("no return", "module m; int f(int x) { " + text + " }")

    def test_right_ways(self):
        for text in (
            "return 1;", "return 1; x = 2;", "{ return 1; }", "if (x) return 1; return 2;", "if (x) return 1; else return 2;",
            "if (x) { return 1; } else { x = 2; return 2; }", "if (x) return 1; else if (x + 1) return 2; else return 3;",
            "switch (x) { default: return 1; }", "switch (x) { case 1: return 1; case 2: return 2; default: return 3; }",
            "while (1) { } return 1;", "if (x) { if (x) return 1; else return 2; } else return 3;", "{ { return 1; } x = 1; }",
            "switch (x) { case 1: if (x) return 1; else return 2; default: { return 3; } } x = 1;",
            "while (x) { break; } return 1;", "return 1; return 2;",
        ):
            self.right_body(text)

    def test_wrong_ways(self):
        for text in (
            "", "x = 1;", "if (x) return 1;", "if (x) return 1; else x = 2;", "if (x) x = 1; else return 2;", "while (1) return 1;",
            "while (1) { }", "do return 1; while (1);", "do { return 1; } while (0);", "for (;;) return 1;", "for (;;) { }",
            "switch (x) { }", "switch (x) { case 1: return 1; }", "switch (x) { case 1: return 1; default: }",
            "switch (x) { case 1: default: return 2; }", "switch (x) { case 1: x = 1; default: return 2; }", "switch (x) { default: }",
            "if (1) { return 1; }", "assert(0);", "if (x) return 1; else if (x + 1) return 2;", "{ if (x) return 1; }",
            "f(1);", "switch (x) { case 1: return 1; case 2: default: return 3; }", "int a;", "int a = 1;", "int a[3];", "out(1);",
            "while (x) break;", "while (x) continue;", "if (x) { int a[3] = {1}; } else { out(x); }",
        ):
            self.wrong_body(text)

    def test_returns(self):
        self.right("module m; void f() { return; } void g() { } void h() { if (1) return; }")
        self.wrong_why("return", "module m; void f() { return 1; }")
        self.wrong_why("return", "module m; int f() { return; }")
        self.wrong_why("return", "module m; uint f() { if (1) return; return 1; }")

    def test_loops(self):
        for text in ("while (1) break;", "while (1) continue;", "do break; while (1);", "for (;;) { if (1) continue; }",
                     "while (1) { switch (1) { case 1: break; default: continue; } }"):
            self.right("module m; void f() { " + text + " }")
        for text in ("break;", "continue;", "if (1) break;", "switch (1) { case 1: break; }", "switch (1) { default: continue; }",
                     "while (1) { } break;", "do { } while (1); continue;", "for (;;) { } break;", "{ continue; }"):
            self.wrong_why("no loop", "module m; void f() { " + text + " }")

    def test_cases(self):
        self.right("module m; void f() { switch (1) { case 0: case 1: case -1: case 2147483648: case 0xfffffffe: } }")
        self.right("module m; void f() { switch (1) { case 0: switch (2) { case 0: } } switch (3) { case 0: } }")
        for one, other in (("1", "1"), ("0", "0x0"), ("1", "1u"), ("-1", "4294967295"), ("-1", "0xffffffff"), ("0", "-0"),
                           ("-4294967295", "1"), ("-2147483648", "2147483648")):
            self.wrong_why("told twice", "module m; void f() { switch (1) { case " + one + ": case 7: case " + other + ": } }")

    def test_main(self):
        self.right("module m; int main() { return 0; }")
        self.right("module m; int main;")
        self.right("module m; void f() { }")
        for text in ("void main() { }", "uint main() { return 0; }", "int main(int x) { return 0; }", "int main(int x[]) { return 0; }"):
            self.wrong_why("main", "module m; " + text)


A = "module a; struct p { int x; uint y[2]; }; int ga; int ra[3]; struct p pa; int fa(int x, int y[]) { return x; } void wa() { }"


class ModulesTest(Checking):
    def test_things_of_other_modules(self):
        self.right(A, "module m; use a; int main() { out(ga + ra[1] + pa.x); wa(); struct p z; z.x = pa.y[1]; return fa(ga, ra); }")
        self.wrong_why("no such name", A, "module m; int main() { return ga; }")
        self.wrong_why("no such function", A, "module m; int main() { wa(); return 0; }")
        self.wrong_why("no such structure", A, "module m; struct p z;")
        self.wrong_why("number of arguments", A, "module m; use a; void f() { wa(1); }")
        self.wrong_why("no such field", A, "module m; use a; void f() { out(pa.z); }")

    def test_uses_go_one_behind_another(self):
        b = "module b; use a; int gb; void fb() { wa(); }"
        self.right(A, b, "module m; use b; void f() { fb(); gb = 1; }")
        self.wrong_why("no such function", A, b, "module m; use b; void f() { wa(); }")
        self.right(A, b, "module m; use b; use a; void f() { wa(); }")
        self.right(A, b, "module m; use b; void wa() { }")

    def test_names_of_modules_that_are_used(self):
        for text in ("int ga;", "void ga() { }", "int fa;", "void wa() { }", "struct p { int z; };", "struct p { int x; uint y[2]; };"):
            self.wrong_why("told twice", A, "module m; use a; " + text)
            self.right(A, "module m; " + text)
        self.right(A, "module m; use a; int p; struct ga { int x; }; struct fa { int x; }; int a; int m; void x(int ga) { int fa; }")

    def test_two_modules_that_tell_the_same(self):
        for one, other in (("int x;", "int x;"), ("int x;", "void x() { }"), ("void x() { }", "int x() { return 1; }"),
                           ("struct x { int a; };", "struct x { int a; };"), ("int main() { return 0; }", "int main() { return 0; }")):
            self.wrong_why("told twice", "module b; " + one, "module c; " + other, "module m; use b; use c;")
            self.right("module b; " + one, "module c; " + other, "module m; use b;")
        self.right("module b; struct x { int a; };", "module c; int x;", "module m; use b; use c;")

    def test_structures_of_modules_behind(self):
        for text in ("struct p gb;", "struct p gb[3];", "void fb(struct p x[]) { }", "int fb(int x, struct p y[]) { return 0; }"):
            b = "module b; use a; " + text
            self.wrong_why("uses", A, b, "module m; use b;")
            self.right(A, b, "module m; use b; use a;")
            self.right(A, b, "module m; use a; use b;")
        self.right(A, "module b; use a; void fb() { struct p x; }", "module m; use b;")
        self.right(A, "module b; use a; struct p gb;", "module m; use a; use b; void f() { gb.x = pa.x; }")
        self.right(A, "module b; use a; void fb(struct p x[]) { }", "module m; use a; use b; struct p q[3]; void f() { fb(q); fb(pa); }")

    def test_uses(self):
        self.wrong_why("uses", A, "module m; use a; use a;")
        tree = read_module("module m; use m;")
        header = header_of(read_module("module m; int x;"), ())
        for headers in ((), (header,)):
            for check in (check_module, header_of):
                with self.assertRaises(BadProgram) as caught:
                    check(tree, headers)
                self.assertEqual(caught.exception.place[0], "m")

    def test_headers(self):
        a = header_of(read_module(A), ())
        b = header_of(read_module("module b; int gb;"), [])
        tree = read_module("module m; use a; use b; int main() { return ga + gb; }")
        for headers in ((a, b), [a, b]):
            check_module(tree, headers)
            header_of(tree, headers)
        for headers in ((), (a,), (b,), (b, a), (a, a), (a, b, b), (a, b, a), [], None, 5, (a, None), (5, b), (a, read_module(A)), {}, "ab"):
            for check in (check_module, header_of):
                with self.assertRaises(BadProgram) as caught:
                    check(tree, headers)
                self.assertEqual(caught.exception.why, "headers")
                self.assertEqual(caught.exception.place[0], "m")
        with self.assertRaises(BadProgram):
            check_module(read_module("module m;"), (a,))

    def test_what_header_of_looks_at(self):
        def header(text):
            return header_of(read_module(text), ())
        header("module m; void f() { x = 1; break; } int g() { }")
        for text in ("int a; int a;", "struct s { };", "int a[0];", "struct s a;", "void f(struct s x[]) { }", "void main() { }",
                     "void f(int a, int b, int c, int d, int e, int f, int g, int h) { }", "struct s { int x; int x; };",
                     "struct s { int x[200]; int y[100]; };", "struct s { int x; }; struct s f() { }", "int a; void a() { }",
                     "struct s { int x; }; void f(struct s a) { }", "struct s { int a[17]; }; struct s b[256];"):
            with self.assertRaises(BadProgram):
                header("module m; " + text)

    def test_bodies_are_no_part_of_headers(self):
        one = header_of(read_module("module m; int g = 1; int f(int x) { return x; }"), ())
        other = header_of(read_module("module m; int g; int f(int x) { out(1); return 2 + x; }"), ())
        a = check_module(read_module("module a; use m; int h() { return f(g); }"), (one,))
        b = check_module(read_module("module a; use m; int h() { return f(g); }"), (other,))
        self.assertEqual(a, b)

    def test_equal_answers_and_unchanged_arguments(self):
        text = A.replace("int ga;", "int ga = 5; int ha[3] = {1, 2};")
        tree = read_module(text)
        again = read_module(text)
        headers = []
        self.assertEqual(check_module(tree, headers), check_module(again, ()))
        self.assertEqual(header_of(tree, headers), header_of(again, ()))
        self.assertEqual((tree, headers), (again, []))

    def test_the_fault_has_its_place(self):
        error = fault_of("module m;\nint main() {\n  return x;\n}")
        self.assertEqual((error.place, error.why), (("m", 3, 10), "no such name"))

    def test_many_things(self):
        things = " ".join("int g%d;" % at for at in range(2500))
        self.right("module m; " + things + " int main() { return g2499; }")
        statements = " ".join("int a%d; a%d = %d;" % (at, at, at) for at in range(1300))
        self.right("module m; int main() { " + statements + " return a7; }")
        cases = " ".join("case %d: x = %d;" % (at, at) for at in range(1400))
        self.right("module m; int main() { int x; switch (x) { " + cases + " } return x; }")
        self.right("module m; int main() { int x; " + "x = x + 1; " * 2600 + " return x; }")


class ExampleTest(unittest.TestCase):
    def test_the_program_of_the_document(self):
        self.assertEqual(len(checked(GREATEST_TWO)), 1)


if __name__ == "__main__":
    unittest.main()

"""[4]: pieces, and [8] for what begins no piece and for values that are no strings."""

import unittest

from support import main_of, outputs_of, place_of_fault, values_of
from trueimage.errors import BadText
from trueimage.reader import read_module

AHEAD = "module m; int main() { return "


def place_in_return(text):
    """The place of the fault of a text put behind return, its column counted from the text's first sign."""
    place = place_of_fault(AHEAD + text + "; }")
    return None if place is None else place[1] - len(AHEAD)


class PiecesTest(unittest.TestCase):
    def test_names(self):
        for name in ("a", "_", "_9", "Z", "a_b9Q", "intx", "ifs", "a" * 24, "_" * 24, "Mod", "IN"):
            self.assertIsNone(place_in_return(name), name)
        for name in ("a" * 25, "a" * 24 + "9", "_" * 100):
            self.assertEqual(place_in_return(name), 1, name)
            self.assertEqual(place_in_return("1 + " + name), 5, name)

    def test_own_words_are_no_names(self):
        words = (
            "module use struct int uint void if else while do for break continue switch case default return out assert "
            "in more length mod"
        )
        for word in words.split():
            self.assertEqual(place_of_fault("module " + word + ";"), (1, 8))
            self.assertEqual(place_of_fault("module m; int " + word + ";"), (1, 15))
            self.assertIsNone(place_of_fault("module m; int " + word + "x;"))

    def test_right_numbers(self):
        for text, word in (
            ("0", 0), ("0u", 0), ("9", 9), ("10", 10), ("2147483647", 2147483647), ("2147483648", 2147483648),
            ("4294967295", 4294967295), ("4294967295u", 4294967295), ("0x0", 0), ("0xff", 255), ("0xffu", 255),
            ("0x00000000ff", 255), ("0x00ffffffff", 4294967295), ("0xdeadbeefu", 3735928559), ("0x7fffffff", 2147483647),
        ):
            self.assertEqual(values_of(text), [word], text)

    def test_wrong_numbers(self):
        for text in (
            "00", "01", "007", "0x", "0xu", "0x00000000001", "0x0000000000f", "0x100000000", "4294967296",
            "4294967296u", "9999999999", "10000000000", "0xFF", "0xfF", "0XFF", "0X1", "1a", "1_", "1uu", "1U", "1u2",
            "0xg", "0x1g", "0x1_", "12x", "0u0", "1ux", "08", "0_", "0b1", "1e5", "9" * 40,
        ):
            self.assertEqual(place_in_return(text), 1, text)
            self.assertEqual(place_in_return("x + " + text), 5, text)

    def test_a_wrong_piece_tells_before_what_stands_behind_it(self):
        self.assertEqual(place_in_return("00 00"), 1)
        self.assertEqual(place_in_return("1 2 00"), 3)
        self.assertEqual(place_in_return("1 + + 00"), 5)
        self.assertEqual(place_in_return("1 @ +"), 3)

    def test_kinds_of_numbers(self):
        # A number above 2,147,483,647, or with a u, makes the comparison one without a sign.
        told = values_of(
            "-1 < 1", "-1 < 1u", "-1 < 2147483647", "-1 < 2147483648", "-1 < 4294967295", "-1 < 0x1u", "-1 < 0x80000000"
        )
        self.assertEqual(told, [1, 0, 1, 0, 0, 0, 0])

    def test_the_longest_sign_counts(self):
        self.assertEqual(values_of("1<<2", "9>>1", "3<=3", "3>=4", "3==3", "3!=3", "1&&2", "0||2"), [4, 4, 1, 0, 1, 0, 1, 1])
        for text, place in (
            ("1 < < 2", 5), ("1 <<< 2", 5), ("1 > > 2", 5), ("1 < = 2", 5), ("1 = = 2", 3), ("1 & & 2", 5),
            ("1 | | 2", 5), ("1 ! = 2", 3), ("1 === 2", 5), ("1 <<= 2", 5), ("1 &&& 2", 5), ("1 ||| 2", 5), ("1 !== 2", 5),
            ("1 >>> 2", 5), ("1 => 2", 3), ("1 =< 2", 3), ("1 <> 2", 4),
        ):
            self.assertEqual(place_in_return(text), place, text)
        self.assertEqual(values_of("1&-1", "1- -1", "1<-1", "2--1", "1<!0", "1&~0"), [1, 2, 0, 3, 0, 1])

    def test_blanks_and_line_feeds_anywhere(self):
        text = "module m ; int a [ 2 ] = { 1 , - 2 } ; int main ( ) { out ( a [ 1 ] << 2 ) ; return 0 ; }"
        for between in (" ", "\n", "   ", "\n\n", " \n ", " // remark ; } \n", "//\n", "///* @ \"#\n"):
            self.assertIsNone(place_of_fault(between.join(text.split())))
            self.assertIsNone(place_of_fault(between + between.join(text.split()) + between))
        self.assertIsNone(place_of_fault("module m;int a[2]={1,-2};int main(){out(a[1]<<2);return 0;}"))

    def test_pieces_that_need_a_blank(self):
        self.assertEqual(place_of_fault("modulem;"), (1, 1))
        self.assertEqual(place_of_fault("module m; inta;"), (1, 11))
        self.assertEqual(place_of_fault("module m; int main() { return1; }"), (1, 31))

    def test_tabs_and_other_signs_nowhere(self):
        for sign in "\t\r\f\v\x00\x7f@#$\"'\\`\u00a0\u00e9\u0661\u2028":
            self.assertEqual(place_of_fault(sign), (1, 1))
            self.assertEqual(place_of_fault("module" + sign + "m;"), (1, 7))
            self.assertEqual(place_of_fault("module m;\n " + sign), (2, 2))
            self.assertEqual(place_in_return("a" + sign), 2)
            self.assertEqual(place_in_return("1" + sign), 2)

    def test_remarks(self):
        self.assertIsNone(place_of_fault("module m; // the end"))
        self.assertIsNone(place_of_fault("module m; //"))
        self.assertIsNone(place_of_fault("// ahead\nmodule m; // @ 00 } \" behind\n// end"))
        self.assertEqual(place_of_fault("// module m;"), (1, 13))
        self.assertEqual(place_of_fault("module m // ;"), (1, 14))
        self.assertEqual(place_of_fault("module m // ;\n"), (2, 1))
        self.assertEqual(place_of_fault("module m // ;\n)"), (2, 1))
        self.assertEqual(place_in_return("1 / / 2"), 5)
        self.assertEqual(outputs_of("out(6 // 3);\n / 3);"), [2])

    def test_the_end(self):
        self.assertEqual(place_of_fault(""), (1, 1))
        self.assertEqual(place_of_fault("\n\n"), (3, 1))
        self.assertEqual(place_of_fault("  "), (1, 3))
        self.assertEqual(place_of_fault("module"), (1, 7))
        self.assertEqual(place_of_fault("module m"), (1, 9))
        self.assertEqual(place_of_fault("module m \n "), (2, 2))
        self.assertIsNone(place_of_fault("module m;"))

    def test_no_strings(self):
        for value in (None, 0, 1, b"module m;", [], ["module m;"], ("module m;",), {}, True, 1.5, object()):
            self.assertEqual(place_of_fault(value), (0, 0))

    def test_equal_trees(self):
        text = main_of("int a; a = 1 + 2 * a;", "struct s { int x; }; uint h[3] = {1};")
        self.assertEqual(read_module(text), read_module(text))

    def test_the_error_has_its_line_and_column(self):
        with self.assertRaises(BadText) as caught:
            read_module("module m;\n\n  int 5;")
        self.assertEqual((caught.exception.line, caught.exception.column), (3, 7))


if __name__ == "__main__":
    unittest.main()

"""[5] to [8]: the place that is told for texts that are wrong, beside a recognizer that is made from the grammar."""

import unittest

from earley import Beginning
from support import place_of_fault

OWN = (
    "module use struct int uint void if else while do for break continue switch case default return out assert in "
    "more length mod"
).split()
SIGNS = (
    "<< >> <= >= == != && || + - * / & | ^ ~ ! < > = ? : ; , . ( ) [ ] { }"
).split()
EVERY = OWN + SIGNS + ["x", "7"]

TEXTS = (
    "module m ; use a ; use b ; struct s { int x ; uint y [ 3 ] ; } ; struct t { } ; int g ; uint h [ 4 ] = { 1 , - 2 } ; "
    "struct s k ; int c = ( 5 ) ; struct s f ( int a , uint b [ ] , struct s c [ ] ) { } void v ( ) { } int z [ 2 ] = { } ;",
    "module m ; int f ( ) { int a ; int b = 1 ; uint c [ 3 ] = { 1 , a + b } ; struct s d ; a = b ; a [ 1 ] = c . x ; "
    "f ( ) ; ( f ( a , b ) ) ; { } { a = 1 ; } return ; return a ; out ( a ) ; assert ( a ) ; break ; continue ; }",
    "module m ; void f ( ) { if ( a ) if ( b ) x ( ) ; else y ( ) ; else { } while ( a ) { } do a = 1 ; while ( b ) ; "
    "do { } while ( 1 ) ; for ( ; ; ) { } for ( int i = 0 ; i < 3 ; i = i + 1 ) f ( ) ; for ( i = 1 ; ; f ( ) ) break ; "
    "for ( f ( ) ; a ; ) { } }",
    "module m ; void f ( ) { switch ( a ) { } switch ( a ) { case 1 : case - 2 : x = 1 ; int y ; default : f ( ) ; { } } "
    "switch ( b ) { default : } switch ( c ) { case 3 : if ( a ) { } } }",
    "module m ; void f ( ) { a = b ? c : d ? e : f ; a = b ? c ? d : e : f || g && h | i ^ j & k == l != m < n <= o ; "
    "a = b > c >= d << e >> f + g - h * i / j mod k ; a = ! ~ - - b [ c ] . d . length ; }",
    "module m ; void f ( ) { a = ( b ) ; a = f ( g ( ) , ( h ) , i [ j ( k ) ] ) . x ; a = in ( ) + more ( ) ; "
    "( a ) = 5 ; 5 = 6 ; - a = b ; a ? b : c = d ; ( ( f ( ) ) ) ; a = ( b ? c : d ) [ e ? f : g ] ; }",
)


def sort_of(piece):
    if piece in OWN or piece in SIGNS:
        return piece
    return "NUMBER" if piece[0].isdigit() else "NAME"


def place_in(pieces, at):
    """The place of a piece where all stand on one line with a blank between them; of the end."""
    if at == len(pieces):
        return (1, len(" ".join(pieces)) + 1)
    return (1, len("".join(piece + " " for piece in pieces[:at])) + 1)


def expected(beginning, start, pieces):
    """The place of the fault of pieces, of which the first ones were taken."""
    beginning.back_to(start)
    for at in range(start, len(pieces)):
        if not beginning.take(sort_of(pieces[at])):
            return place_in(pieces, at)
    return None if beginning.can_end() else place_in(pieces, len(pieces))


class PlacesTest(unittest.TestCase):
    def test_right_texts(self):
        for text in TEXTS:
            self.assertIsNone(place_of_fault(text))
            self.assertIsNone(expected(Beginning(), 0, text.split()))

    def test_cut_at_any_piece(self):
        for text in TEXTS:
            pieces = text.split()
            beginning = Beginning()
            for many in range(len(pieces) + 1):
                start = max(0, many - 1)
                place = expected(beginning, start, pieces[:many])
                self.assertEqual(place_of_fault(" ".join(pieces[:many])), place, pieces[:many])

    def test_cut_at_any_line(self):
        lines = ["module m ;", "int main ( )", "  {", "", "  return", "1", "; // end", "", "}"]
        for many in range(1, len(lines)):
            cut = "\n".join(lines[:many])
            place = None if many == 1 else (many, len(lines[many - 1]) + 1)
            self.assertEqual(place_of_fault(cut), place)
            self.assertEqual(place_of_fault(cut + "\n"), None if many == 1 else (many + 1, 1))
            self.assertEqual(place_of_fault(cut + "\n  \n "), None if many == 1 else (many + 2, 2))
        self.assertIsNone(place_of_fault("\n".join(lines)))

    def test_any_piece_put_in_anywhere(self):
        for text in TEXTS:
            pieces = text.split()
            beginning = Beginning()
            for at in range(len(pieces) + 1):
                for piece in EVERY:
                    changed = pieces[:at] + [piece] + pieces[at:]
                    place = expected(beginning, at, changed)
                    self.assertEqual(place_of_fault(" ".join(changed)), place, " ".join(changed[:at + 9]))
                beginning.back_to(at)
                if at < len(pieces):
                    beginning.take(sort_of(pieces[at]))

    def test_any_piece_left_out_or_taken_twice(self):
        for text in TEXTS:
            pieces = text.split()
            beginning = Beginning()
            for at in range(len(pieces)):
                for changed in (pieces[:at] + pieces[at + 1:], pieces[:at + 1] + pieces[at:]):
                    place = expected(beginning, at, changed)
                    self.assertEqual(place_of_fault(" ".join(changed)), place, " ".join(changed))
                beginning.back_to(at)
                beginning.take(sort_of(pieces[at]))

    def test_any_sign_that_begins_no_piece(self):
        for text in TEXTS:
            pieces = text.split()
            for at in range(len(pieces) + 1):
                for wrong in ("\t", "@", "#", "$", "\"", "'", "\\", "`", "00", "a" * 25, "1x", "\r", "\u00e9"):
                    changed = pieces[:at] + [wrong] + pieces[at:]
                    self.assertEqual(place_of_fault(" ".join(changed)), place_in(changed, at))


if __name__ == "__main__":
    unittest.main()

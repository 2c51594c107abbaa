"""[55]: what is formed as an object."""

import random
import unittest

from middlefunctions import CALLEES, GLOBALS, random_unit
from programs import random_program
from support import checked
from trueimage.forms import encode
from trueimage.inlining import unit_with_tails
from trueimage.lowering import lower_module
from trueimage.objectforms import is_object
from trueimage.objects import object_of

RETURN = encode(("jalr", 0, 1, 0))
LUI, ADDI, JAL, LW, SW, SLLI, BEQ, ADD = [encode(one) for one in (
    ("lui", 5, 0, 0), ("addi", 5, 5, 0), ("jal", 1, 0, 0), ("lw", 5, 5, 0), ("sw", 5, 6, 0), ("slli", 5, 5, 0), ("beq", 5, 5, 8), ("add", 5, 5, 5))]
PARTS = ("name", "words", "globals", "names", "wants", "patches", "places", "traps", "frames", "calls", "pace")


def right():
    """The parts of an object by hand."""
    return {
        "name": "m", "words": (LUI, ADDI, JAL, encode(("ebreak", 0, 0, 0)), RETURN, ADDI, RETURN),
        "globals": (("g", "int[3]", 3, (1, 2)), ("h", "int", 1, ())), "names": (("f", "int(int)", 1, 0), ("b", "int()", 0, 5)),
        "wants": (("c", "int()", 0), ("d", "int[2]", -1)),
        "patches": ((0, "high", "g", 8), (1, "low", "d", 8), (2, "jump", "c", 0), (5, "limit", "", 0)),
        "places": (("m", 1, 1), None, ("m", 0, 0), ("m", 2, 2), None, None, ("z", 9, 9)), "traps": ((3, "zero"), (4, "told")),
        "frames": (("f", 16), ("b", 0)), "calls": (("b", "f", 1, True), ("f", "b", 1000, False), ("f", "c", 2, False), ("f", "f", 2, False), ("f", "f", 2, True)),
        "pace": 8,
    }


def made(parts):
    return tuple(parts[part] for part in PARTS)


class ObjectsTest(unittest.TestCase):
    def yes(self, **changes):
        self.assertIs(is_object(made({**right(), **changes})), True, changes)

    def no(self, **changes):
        self.assertIs(is_object(made({**right(), **changes})), False, changes)

    def test_objects_of_random_units(self):
        for seed in range(150):
            unit = lower_module(checked(random_program(seed)[0])[0]) if seed % 3 == 0 else random_unit(seed)
            thing = object_of(unit_with_tails(unit) if seed % 2 else unit)
            self.assertIs(is_object(thing), True)
            self.spoil(thing, random.Random(seed))
        self.assertTrue(is_object(object_of(("m", GLOBALS, (), ()))))
        self.assertTrue(is_object(object_of(("m", (), (), (("far", "int(int[],int)", 3), ("near", "s[4]", -1))))))

    def spoil(self, thing, numbers):
        """An object with one of its parts, or of theirs, of another form is none."""
        self.assertFalse(is_object(list(thing)))
        self.assertFalse(is_object(thing[:10]))
        self.assertFalse(is_object(thing + (0,)))
        for at in range(11):
            for part in (None, 5.0, True, {}, list(thing[at]) if isinstance(thing[at], tuple) else [thing[at]]):
                self.assertFalse(is_object(thing[:at] + (part,) + thing[at + 1:]), (at, part))
            if isinstance(thing[at], tuple) and thing[at]:
                self.spoil_rows(thing, at, numbers)

    def spoil_rows(self, thing, at, numbers):
        rows = thing[at]
        number = numbers.randrange(len(rows))
        row = rows[number]
        wrong = [True, None, 1.0] if at == 1 else [5, True, ("m", 1), ["m", 1, 1], ("m", 1, True), ("m", -1, 1), (5, 1, 1), ("m", 1, 1, 1)] if at == 6 else [
            None, 5, list(row), row[:-1], row + (0,)]
        for other in wrong:
            self.assertFalse(is_object(thing[:at] + (rows[:number] + (other,) + rows[number + 1:],) + thing[at + 1:]), (at, other))
        if at in (1, 6):
            self.assertFalse(is_object(thing[:at] + (rows[1:],) + thing[at + 1:]))
            return
        for place in range(len(row)):
            # True for an integer, 1 for True, a text for a number, a number for a text.
            unlike = int(row[place]) if isinstance(row[place], bool) else bool(row[place])
            for other in (None, 2.0, [row[place]], -2 ** 33, "one" if isinstance(row[place], int) else 5, unlike):
                told = row[:place] + (other,) + row[place + 1:]
                self.assertFalse(is_object(thing[:at] + (rows[:number] + (told,) + rows[number + 1:],) + thing[at + 1:]), (at, told))

    def test_right_objects(self):
        self.yes()
        self.assertTrue(is_object(("m", (), (), (), (), (), (), (), (), (), 8)))
        self.yes(name="", pace=9)

    def test_words(self):
        for word in (0, 2 ** 32 - 1):
            self.yes(words=right()["words"][:6] + (word,))
        for word in (-1, 2 ** 32, True, None, "5", 5.0, (5,)):
            self.no(words=right()["words"][:6] + (word,))
        self.no(words=right()["words"][:6])
        self.no(words=right()["words"] + (RETURN,))

    def test_globals(self):
        one = ("h", "int", 1, ())
        for told in (("g", "int[3]", 4096, (0, 2 ** 32 - 1)), ("g", "int[3]", 3, (1, 2, 3)), ("g", "int[3]", 1, ())):
            self.yes(globals=(told, one))
        for told in (("g", "int[3]", 0, ()), ("g", "int[3]", 4097, ()), ("g", "int[3]", 1, (1, 2)), ("g", "int[3]", 3, [1]), ("g", "int[3]", True, ()), ("g", 5, 3, ()),
                     (5, "int[3]", 3, ()), ("g", "int[3]", 3, (True,)), ("g", "int[3]", 3, (-1,)), ("g", "int[3]", 3, (2 ** 32,)), ("g", "int[3]", 3), ["g", "int[3]", 3, ()], one, None,
                     ("f", "int[3]", 3, ()), ("c", "int[3]", 3, ())):
            self.no(globals=(told, one))

    def test_names(self):
        one, two = right()["names"]
        for names in ((("f", "int(int)", 7, 0), two), (one, ("b", "int()", 0, 1)), (one, ("b", "int()", 0, 6))):
            self.yes(names=names)
        for names in ((("f", "int(int)", 8, 0), two), (("f", "int(int)", -1, 0), two), (("f", "int(int)", True, 0), two), (("f", "int(int)", 1, -1), two),
                      (("f", "int(int)", 1, 1), two), (("f", "int(int)", 1, False), two), (one, ("b", "int()", 0, 7)), (one, ("b", "int()", 0, 0)),
                      ((("f", "int(int)", 1, 5), two)), (one, ("f", "int()", 0, 5)), (one, ("g", "int()", 0, 5)), (one, ("d", "int()", 0, 5)), (one, (5, "int()", 0, 5)),
                      (one, ("b", None, 0, 5)), (one,), (two, one), (one, list(two)), (one, two[:3]), (one, two, ("e", "int()", 0, 6)), ()):
            self.no(names=names)

    def test_wants(self):
        one, two = right()["wants"]
        self.yes(wants=(one, two, ("e", "int()", 7)))
        for wants in ((two, one), (one, one, two), (one, two, two), (one, ("d", "int[2]", -2)), (one, ("d", "int[2]", True)), (one, ("d", 5, -1)), (one, (5, "int[2]", -1)),
                      (one, two, ("f", "int()", 0)), (one, two, ("g", "int", -1)), (one, two[:2]), (one, list(two)), (one,), (two,), (("c", "int()", -1), two)):
            self.no(wants=wants)

    def test_patches(self):
        words = right()["words"]
        for word, kind in ((LUI, "high"), (ADDI, "low"), (LW, "low"), (SW, "low"), (JAL, "jump"), (ADDI, "limit"), (encode(("jalr", 0, 5, 0)), "low"), (encode(("sb", 5, 5, 0)), "low")):
            for name in ("g", "h", "f", "b", "c", "d"):
                told = (6, kind, "" if kind == "limit" else name, 4)
                self.yes(words=words[:6] + (word,), patches=right()["patches"] + (told,))
                for at in (-1, 7, True, None, "6", 5):
                    self.no(words=words[:6] + (word,), patches=right()["patches"] + ((at,) + told[1:],))
                for bytes_told in (None, True, 4.0, "4"):
                    self.no(words=words[:6] + (word,), patches=right()["patches"] + (told[:3] + (bytes_told,),))
                for wrong in ("nobody", "m", None, 5, "g" if kind == "limit" else ""):
                    self.no(words=words[:6] + (word,), patches=right()["patches"] + (told[:2] + (wrong, 4),))
        for word, kind in ((ADDI, "high"), (encode(("auipc", 5, 0, 0)), "high"), (LUI, "low"), (SLLI, "low"), (BEQ, "low"), (ADD, "low"), (JAL, "low"), (ADDI, "jump"), (RETURN, "jump"),
                           (LW, "limit"), (LUI, "limit"), (0, "low"), (ADDI, "other"), (ADDI, ""), (ADDI, None), (ADDI, 5)):
            self.no(words=words[:6] + (word,), patches=right()["patches"] + ((6, kind, "" if kind == "limit" else "g", 4),))
        one, two = right()["patches"][:2]
        self.no(patches=(two, one))
        self.no(patches=(one[:3],))
        self.no(patches=(list(one),))
        self.yes(patches=())

    def test_places(self):
        places = right()["places"]
        self.yes(places=(None,) * 7)
        for place in (("m", 1), ("m", 1, 1, 1), ["m", 1, 1], ("m", -1, 1), ("m", 1, -1), ("m", True, 1), ("m", 1, None), (5, 1, 1), (None, 1, 1), 5, "m", (), False, 0):
            self.no(places=(place,) + places[1:])
        self.no(places=places[:6])
        self.no(places=places + (None,))
        self.no(places=list(places))

    def test_traps(self):
        self.yes(traps=())
        for kind in ("bounds", "zero", "told", "stack"):
            self.yes(traps=((3, kind),))
        for traps in (((4, "told"), (3, "zero")), ((7, "zero"),), ((-1, "zero"),), ((True, "zero"),), ((3, None),), ((3, 5),), ((3,),), ((3, "zero", 0),), ([3, "zero"],), (3,), [(3, "zero")]):
            self.no(traps=traps)

    def test_frames(self):
        self.yes(frames=(("f", 0), ("b", 2 ** 24)))
        for frames in ((("f", 2 ** 24 + 16), ("b", 0)), (("f", -16), ("b", 0)), (("f", 8), ("b", 0)), (("f", 1), ("b", 0)), (("f", False), ("b", 0)), (("f", None), ("b", 0)), (("b", 0), ("f", 16)),
                       (("f", 16),), (("f", 16), ("b", 0), ("c", 0)), (("f", 16), ("f", 16), ("b", 0)), (("f", 16), ("x", 0)), (("f", 16), ["b", 0]), (("f", 16), ("b",)), (), [("f", 16), ("b", 0)]):
            self.no(frames=frames)

    def test_calls(self):
        one = ("f", "b", 1, False)
        self.yes(calls=())
        self.yes(calls=(one, ("f", "b", 1, True), ("f", "b", 2, False)))
        for calls in ((one, one), (("f", "b", 2, False), one), (("f", "b", 1, True), one), (("f", "b", 0, False),), (("f", "b", 1001, False),), (("f", "b", True, False),), (("f", "b", 1, 0),),
                      (("f", "b", 1, 1),), (("f", "b", 1, None),), (("f", "g", 1, False),), (("f", "d", 1, False),), (("f", "x", 1, False),), (("c", "f", 1, False),), (("g", "f", 1, False),),
                      (("x", "f", 1, False),), (("f", "b", 1),), (list(one),), (5,), (("f", 5, 1, False),), ((None, "b", 1, False),), [one]):
            self.no(calls=calls)

    def test_pace(self):
        self.yes(pace=200000)
        for pace in (7, 0, -8, True, None, "8", 8.0, (8,)):
            self.no(pace=pace)

    def test_names_of_objects(self):
        for name in (None, 5, True, ("m",), ["m"]):
            self.no(name=name)

    def test_values_that_are_no_objects(self):
        for thing in (None, 5, "object", (), [], {}, True, ((),) * 11, (None,) * 11, ("m",) * 11, list(made(right())), made(right())[1:], set()):
            self.assertIs(is_object(thing), False)

    def test_units_by_hand(self):
        self.assertTrue(is_object(object_of(("m", GLOBALS, CALLEES, ()))))


if __name__ == "__main__":
    unittest.main()

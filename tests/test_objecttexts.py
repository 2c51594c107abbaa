"""[56]: objects as texts."""

import random
import unittest

from middlefunctions import CALLEES, GLOBALS, random_unit
from programs import random_program
from support import checked
from trueimage.errors import BadText, BadThing
from trueimage.inlining import unit_with_tails
from trueimage.linking import link
from trueimage.lowering import lower_module
from trueimage.machine import run_image
from trueimage.objectforms import is_object
from trueimage.objects import object_of
from trueimage.objecttexts import object_by, object_text

AT = ("m", 1, 1)
SIGNS = "abz019_. -\n:$[]()%\t\u00e9"


def named(name="m", thing="g", function="main", want="far", module="m", kind="int()"):
    """An object with these names."""
    place = (module, 1, 1)
    rows = (("address", 0, thing, place), ("load", 1, 0, 0, place), ("call", 2, want, (), 1, place))
    return object_of((name, ((thing, "int", 1, (5,)),), ((function, kind, (), (((), rows, ("return", 2)),)),), ((want, "int()", 0),)))


class ObjectTextsTest(unittest.TestCase):
    def test_texts_of_objects(self):
        texts = {}
        for seed in range(120):
            unit = lower_module(checked(random_program(seed)[0])[0]) if seed % 3 == 0 else random_unit(seed)
            thing = object_of(unit_with_tails(unit) if seed % 2 else unit)
            text = object_text(thing)
            self.assertIsInstance(text, str)
            self.assertEqual(object_by(text), thing)
            self.assertEqual(object_text(thing), text)
            self.assertEqual(texts.setdefault(text, thing), thing)
        for unit in (("m", (), (), ()), ("m", GLOBALS, (), ()), ("m", (), (), (("far", "int()", 0), ("near", "s[4]", -1)))):
            thing = object_of(unit)
            self.assertEqual(object_by(object_text(thing)), thing)

    def test_what_is_read_can_be_linked(self):
        thing = object_of(("m", GLOBALS, CALLEES + (("main", "int()", (), (((), (("in", 0, AT), ("call", 1, "sum", (0, 0), 1, AT), ("out", 1, AT)), ("return", 1)),)),), ()))
        image = link([object_by(object_text(thing))], (), 9)
        self.assertEqual(image, link([thing], (), 9))
        self.assertEqual(run_image(image, (4,), 999)[:2], ((8,), ("answer", 8)))

    def test_kinds_may_have_any_signs(self):
        for kind in ("int()", "struct s[]()", "()", "a b\nc()", "7:x()", "\n\n()", "end\n()", "word 5\n()"):
            thing = named(kind=kind)
            self.assertEqual(object_by(object_text(thing)), thing)
            thing = object_of(("m", (("g", kind, 3, ()),), (), (("w", kind, -1),)))
            self.assertEqual(object_by(object_text(thing)), thing)

    def test_names(self):
        for name in ("a", "Z", "_", ".", "0", "a.b", "9x", "main2", "x" * 500, "end", "word", "object", "..", "A_b.C9"):
            for part in ("name", "thing", "function", "want", "module"):
                thing = named(**{part: name})
                self.assertEqual(object_by(object_text(thing)), thing)
        for name in ("", " ", "a b", "a\n", "\n", "a-b", "-", "a$", "a[]", "(", "%", "\u00e9", "\u0661", "a,b", "a:b", "\t", "a/b", "\u212a"):
            for part in ("name", "thing", "function", "want", "module"):
                thing = named(**{part: name})
                with self.assertRaises(BadThing, msg=(part, name)) as caught:
                    object_text(thing)
                self.assertEqual(caught.exception.thing, name)

    def look(self, text):
        """What is read is an object with this text, or BadText is raised."""
        try:
            thing = object_by(text)
        except BadText as error:
            self.assertTrue(1 <= error.line <= text.count("\n") + 1 and 1 <= error.column <= len(text) + 1, (error.line, error.column))
            return False
        self.assertTrue(is_object(thing))
        self.assertEqual(object_text(thing), text)
        return True

    def test_texts_cut_short(self):
        thing = object_of(("m", GLOBALS[:2], CALLEES, (("far", "int()", 0),)))
        text = object_text(thing)
        for at in range(len(text)):
            self.assertFalse(self.look(text[:at]), at)
            if at > 0:
                self.assertFalse(self.look(text[at:]), at)
        self.assertFalse(self.look(text + text))
        for more in ("\n", " ", "x", "end\n", "\u00e9"):
            self.assertFalse(self.look(text + more))
            self.assertFalse(self.look(more + text))

    def test_each_sign_changed(self):
        numbers = random.Random(1)
        text = object_text(object_of(("m", GLOBALS[:2], CALLEES, (("far", "int()", 0),))))
        taken = 0
        for at in range(len(text)):
            self.look(text[:at] + text[at + 1:])
            for sign in numbers.sample(SIGNS, 4) + ["0", "\n", " "]:
                taken += self.look(text[:at] + sign + text[at + 1:])
                taken += self.look(text[:at] + sign + text[at:])
        self.assertGreater(taken, 0)

    def test_random_changes(self):
        for seed in range(60):
            numbers = random.Random(seed)
            text = object_text(object_of(random_unit(seed)))
            for _ in range(30):
                for _ in range(numbers.randrange(1, 4)):
                    at = numbers.randrange(len(text))
                    text = numbers.choice((text[:at] + text[at + 1:], text[:at] + numbers.choice(SIGNS) + text[at:], text[:at] + numbers.choice(SIGNS) + text[at + 1:]))
                self.look(text)
                lines = object_text(object_of(random_unit(seed))).split("\n")
                at, other = numbers.randrange(len(lines)), numbers.randrange(len(lines))
                lines[at], lines[other] = lines[other], lines[at]
                self.look("\n".join(lines))
                del lines[at]
                self.look("\n".join(lines))

    def test_texts_of_none(self):
        for text in ("", "\n", "end\n", "object m 8", "object m 8\n", "object m 8\nend", "object m 7\nend\n", "object  8\nend\n", "object m 08\nend\n", "object m 8 \nend\n", " object m 8\nend\n",
                     "object m$ 8\nend\n", "object m 8\nword 5\nend\n\n", "object m 8\nend\nend\n", "object m 8\nword -1\nend\n", "object m 8\nword 4294967296\nend\n",
                     "object m 8\nword " + "1" * 5000 + "\nend\n", "object m 8\nfunction f 0 0 -5\nint()\nend\n", "object m 8\nfunction f 0 0 -12\nend\n", "object m 8\nglobal g 1 999\nint\nend\n",
                     "object m 8\nglobal g 1 3\nint\nglobal g 1 3\nint\nend\n", "object m 8\nwant\nend\n", "object m 8\nwant w\nend\n", "object m 8\ncall\nend\n", "object m 8\nframe\nend\n",
                     "object m 8\ntrap\nend\n", "object m 8\npatch\nend\n", "object m 8\nword\nend\n", "object m 8\nfunction\nend\n", "object m 8\nglobal\nend\n", "object m 8\nwords 5\nend\n",
                     "object m 8\nword 5 m 1\nend\n", "object m 8\nword 5 m 1 1 1\nend\n", "object m 8\nword 5 m 1 -1\nend\n", "object m 8\ncall f f 1 2\nend\n", "OBJECT m 8\nend\n"):
            with self.assertRaises(BadText, msg=text):
                object_by(text)
        self.assertEqual(object_by("object m 8\nend\n"), object_of(("m", (), (), ())))

    def test_values_that_are_no_text(self):
        for text in (None, 5, b"object m 8\nend\n", ["object m 8\nend\n"], (), True, object_of(("m", (), (), ()))):
            with self.assertRaises(BadText) as caught:
                object_by(text)
            self.assertEqual((caught.exception.line, caught.exception.column), (0, 0))


if __name__ == "__main__":
    unittest.main()

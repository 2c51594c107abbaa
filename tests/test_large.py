"""[2], [29], [64]: the greatest texts go through all layers in seconds, with few calls within one another."""

import inspect
import sys
import time
import unittest

from support import checked
from trueimage.choosing import chosen
from trueimage.colourcheck import wrong_colours
from trueimage.colours import colours_of, most_alive, spills_in
from trueimage.errors import BadLink, BadThing
from trueimage.lowering import lower_module
from trueimage.machine import run_image
from trueimage.meaning import mean
from trueimage.whole import built

MOST_SIGNS = 30000
NAMES = [a + b for a in "abcdefghijklmnopqrstuvwxyz" for b in "abcdefghijklmnopqrstuvwxyz" if a + b not in ("if", "do", "in")]
PASSES = ("fold", "params", "again", "dead", "loops", "join", "thread")
# For each text at most so many seconds, on a slow machine.
MOST_SECONDS = 60
MOST_CALLS = 300
MOST_WORDS = 70000
PLAIN = (0, False, (), 11)


def text_of(body, ahead="", many=1, first="", last=""):
    """A text with a body that comes so many times, as often as it fits if that is 0."""
    begin = "module m; " + ahead + " int main() { " + first
    end = last + " return 0; }"
    many = many or (MOST_SIGNS - len(begin) - len(end)) // len(body)
    return begin + body * many + end


def declared(many):
    return "".join("int " + name + " = in(); " for name in NAMES[:many])


def told(many):
    return "".join("out(" + name + ");" for name in NAMES[:many])


def counted(many, behind=""):
    return "".join(name + "=" + name + "+1;" + behind for name in NAMES[:many])


F = "int f(int a) { if (a) return a; return 2; }"
TEXTS = {
    "branches": text_of("if(in())out(1);", many=0),
    "sums": text_of("x=x+in();", many=0, first="int x;", last="out(x);"),
    "sums and branches": text_of("x=x+1;if(x)out(x);", many=0, first="int x;"),
    "many that live": text_of("if(in())out(1);", many=500, first=declared(450), last=told(450)),
    "many that change in a loop": text_of("while(more()){" + counted(500, "if(in())break;") + "}", first=declared(500), last=told(500)),
    "many that change in loops": text_of("while(in()){" * 13 + counted(350, "if(in())break;") + "}" * 13, first=declared(350), last=told(350)),
    "indices": text_of("g[in()]=g[in()]+g[3];", "int g[100];", 0),
    "arrays": text_of("while(more()){" + "".join("int " + name + "[256];" for name in NAMES[:600]) + "}"),
    "signs": text_of("x=x*3+y-(x&y)*(y|5)^x<<3;", many=0, first="int x=in();int y=in();", last="out(x);"),
    "both and either": text_of("x=x&&y||!x;", many=0, first="int x=in();int y=in();", last="out(x);"),
    "choices": text_of("x=x?y:x+1;", many=0, first="int x=in();int y=in();", last="out(x);"),
    "loops within loops": text_of("while(x){" * 13 + "x=x-1;if(x)break;" * 1600 + "}" * 13, first="int x=in();"),
    "cases": text_of("switch(x){" + "".join(f"case {at}:x={at + 1};out(x);" for at in range(1100)) + "}", first="int x=in();", last="out(x);"),
    "calls": text_of("x=f(x)+f(3);", F, 0, "int x=in();", "out(x);"),
    "words": text_of("while(x){" + "".join(f"out(x+{at * 7919});" for at in range(1500)) + "}", first="int x=in();"),
    "rows out of a loop": text_of("while(x){" + "".join(f"out(y*{at});" for at in range(1700)) + "}", first="int x=in();int y=in();"),
    "cases that each change one": text_of("while(in()){switch(in()){" + "".join(
        f"case {at}:{one}={other};" for at, (one, other) in enumerate(zip(NAMES[:200], NAMES[1:201]))) + "}}", first=declared(201), last=told(201)),
    "cases that break": text_of("while(in()){" * 13 + "switch(in()){" + "".join(
        f"case {at}:{one}={other};break;" for at, (one, other) in enumerate(zip(NAMES[:150], NAMES[1:151]))) + "}" + "}" * 13, first=declared(151), last=told(151)),
    "many that go round": text_of("while(in()){int zz=aa;" + "".join(
        one + "=" + other + ";" for one, other in zip(NAMES[:299], NAMES[1:300])) + "}", many=0, first=declared(300), last=told(300)),
}


class LargeTest(unittest.TestCase):
    def setUp(self):
        # Nothing may depend on more than a few hundred calls within one another.
        self.limit = sys.getrecursionlimit()
        sys.setrecursionlimit(len(inspect.stack()) + MOST_CALLS)

    def tearDown(self):
        sys.setrecursionlimit(self.limit)

    def test_texts(self):
        for name, text in TEXTS.items():
            self.assertLessEqual(len(text), MOST_SIGNS, name)
            with self.subTest(name):
                start = time.process_time()
                self.look(text)
                self.assertLess(time.process_time() - start, MOST_SECONDS)

    def look(self, text):
        module = checked(text)[0]
        outputs, ending, steps = mean([module], (), 1000, 200000)
        self.assertNotEqual(ending, ("on",))
        unit = lower_module(module)
        for function in unit[2]:
            low = chosen(function)
            colouring = colours_of(low)
            self.assertIsNone(wrong_colours(low, colouring))
            self.assertTrue(spills_in(colouring) == () or most_alive(low) > 12)
        for choice in ((0, False, (), 11), (8, True, PASSES, 1)):
            image, most = built([text], choice, 1000)
            # Moves and copies are as few as can be, so code stays near to the text.
            self.assertLess(len(image[0]), MOST_WORDS)
            told = run_image(image, (), most * (steps + 1) + 1)
            self.assertEqual(told[:2], (outputs, ending))
            self.assertLessEqual(told[2], most * (steps + 1))

    def test_code_with_too_many_words(self):
        row = "g[in()]=g[in()]+g[3];" * 1300
        texts = [f"module m{at}; int g{at}[100]; void f{at}() {{ {row.replace('g[', f'g{at}[')} }}" for at in range(6)]
        main = "module m; int main() { return 5; }"
        with self.assertRaises(BadThing) as caught:
            built(texts + [main], PLAIN, 7)
        self.assertEqual(caught.exception.thing, 7)

    def test_a_function_whose_jumps_do_not_reach(self):
        # Copies of very many values at very many ends.
        names = [one + other for one in "abcdefghijklmnopqrst" for other in "abcdefghijklmnopqrstuvwxyzABCDEFGHIJKLM" if one + other not in ("if", "do", "in")][:760]
        copies = "".join(f"{one}={other};if(in())continue;" for one, other in zip(names, names[1:]))
        text = "module m; int main() { " + "".join("int " + name + ";" for name in names) + "while(in()){" + copies + "}" + "".join(f"out({name});" for name in names) + " return 0; }"
        self.assertLess(len(text), MOST_SIGNS)
        for texts, limit, error in (([text], 9, BadThing), ([text, "module n; int main() { return 1; }"], 9, BadLink)):
            with self.assertRaises(error):
                built(texts, PLAIN, limit)


if __name__ == "__main__":
    unittest.main()

"""[2], [29]: equal arguments give equal answers, and nothing that is handed is changed."""

import copy
import unittest

from support import GREATEST_TWO
from trueimage.assembling import assembled, long_branches
from trueimage.checker import check_module, header_of
from trueimage.choosing import chosen
from trueimage.coalescing import moves_in, registers_in
from trueimage.codecheck import wrong_code, wrong_object
from trueimage.colourcheck import wrong_colours
from trueimage.colours import colours_of, colours_within, most_alive, spills_in
from trueimage.debugging import counts, deepest, image_listing, name_at, open_calls, stops_at, trail, word_told
from trueimage.emitrows import lines_of
from trueimage.errors import ImageError
from trueimage.forms import decode, encode
from trueimage.imagebytes import image_bytes, image_of
from trueimage.inlining import placed, placed_small, unit_with_tails
from trueimage.linking import data_start, link, stack_needed, stack_start, taken, unlinked
from trueimage.listing import instruction_by, instruction_text, listing, word_text
from trueimage.lives import is_table, lives
from trueimage.lowcode import low_end_uses, low_gives, low_hands, low_uses
from trueimage.lowering import lower_module
from trueimage.lowruns import run_low
from trueimage.machine import Machine, run_image
from trueimage.meaning import mean
from trueimage.middle import wrong_function
from trueimage.moves import fewest_moves, moves_of
from trueimage.objectforms import is_object
from trueimage.objects import given_by, object_of
from trueimage.objecttexts import object_by, object_text
from trueimage.optimising import optimised, optimised_unit, pass_of
from trueimage.reader import read_module
from trueimage.readymachine import ReadyMachine, run_ready
from trueimage.runs import run
from trueimage.shortlines import same_lines, shortened
from trueimage.units import check_unit, wrong_together
from trueimage.whole import built, modules_of
from trueimage.witness import check_change, factor_of, is_same_by
from trueimage.words import apply, signed, word_of

AT = ("m", 1, 1)
TEXTS = [GREATEST_TWO, "module a; struct s { int x; int r[3]; }; struct s g; int h(int r[], int x) { r[x] = 1; return x < 2 ? h(r, x + 1) : r[0]; } "
         "int f(int x) { int a[4] = {1, 2, x}; switch (x) { case 1: return h(a, 0); default: return a[x & 3] / g.x; } }"]


class TwiceTest(unittest.TestCase):
    def twice(self, function, *args):
        """What a function answers, which is the same for copies of what it is handed, all of which stay as they are."""
        before = copy.deepcopy(args)
        first = self.told(function, args)
        self.assertEqual(args, before)
        again = self.told(function, before)
        self.assertEqual(first, again)
        self.assertEqual(self.told(function, args)[1:], first[1:])
        return first[0]

    def told(self, function, args):
        try:
            answer = function(*args)
        except ImageError as error:
            return None, type(error), sorted(vars(error).items(), key=repr)
        return answer, self.plain(answer)

    def plain(self, answer):
        """An answer as a text: what it has, where it is no plain value."""
        return repr(sorted(vars(answer).items())) if hasattr(answer, "__dict__") else repr(answer)

    def test_words_and_texts(self):
        self.twice(word_of, -5)
        self.twice(signed, 2 ** 31)
        self.twice(apply, "divs", 2 ** 31, 3)
        for text in TEXTS + ["module m", "module m; int f() { return }", None]:
            self.twice(read_module, text)
        trees = [read_module(text) for text in TEXTS]
        for tree in trees + [read_module("module m; int f() { return x; }")]:
            for headers in ((), []):
                self.twice(header_of, tree, headers)
                self.twice(check_module, tree, headers)
        self.twice(modules_of, TEXTS)
        self.twice(modules_of, TEXTS + ["module b; use c;"])

    def test_middle_code(self):
        modules = modules_of(TEXTS)
        self.twice(mean, modules, (3, 9, 4), 9, 999)
        units = [self.twice(lower_module, module) for module in modules]
        for unit in units + [None]:
            self.twice(check_unit, unit)
        self.twice(wrong_together, units)
        self.twice(wrong_together, units + units)
        for inputs in ((3, 9, 4), [3, 9, 4], [None]):
            self.twice(run, units, inputs, 9, 999)
        for unit in units:
            made = self.twice(unit_with_tails, self.twice(placed_small, unit, 3))
            self.twice(placed, unit, unit[2][-1][0], 0, 0)
            self.twice(optimised_unit, made, ("fold", "again", "dead"))
            for function in made[2]:
                self.functions(function)

    def functions(self, function):
        self.twice(wrong_function, function)
        self.twice(optimised, function, ("join", "thread", "loops"))
        for name in ("fold", "params", "again", "dead", "loops", "join", "thread", "none"):
            answer = self.twice(pass_of, name, function)
            if answer is not None:
                self.twice(check_change, function, *answer)
                self.twice(is_same_by, function, *answer)
                self.twice(factor_of, *answer)
        low = self.twice(chosen, function)
        for _, rows, end in low[2]:
            for row in rows:
                self.twice(low_gives, list(row))
                self.twice(low_uses, list(row))
            self.twice(low_hands, list(end))
            self.twice(low_end_uses, list(end))
        self.twice(is_table, low[2], self.twice(lives, low[2]))
        self.twice(most_alive, low)
        for colouring in (self.twice(colours_of, low), self.twice(colours_within, low, 2)):
            for look in (wrong_colours, moves_in):
                self.twice(look, low, colouring)
            self.twice(spills_in, colouring)
            self.twice(registers_in, colouring)
            lines, _ = self.twice(lines_of, low, colouring)
            short = self.twice(shortened, lines)
            self.twice(same_lines, lines, short)
            self.twice(long_branches, lines)
            self.twice(assembled, lines)

    def test_moves_and_instructions(self):
        pairs = [(("r", 8), ("r", 9)), (("r", 9), ("r", 8)), (("w", 0), ("r", 8)), (("r", 18), ("r", 0))]
        self.twice(moves_of, pairs)
        self.twice(fewest_moves, pairs)
        for instruction in (("addi", 1, 2, -1), ("jal", 1, 4, 0), ("jal", 1, 3, 0)):
            self.twice(encode, instruction)
            self.twice(instruction_text, instruction)
        for word in (115, 0, 4293984403):
            self.twice(decode, word)
            self.twice(word_text, word)
        for text in ("addi a0, zero, 1", "addi a0,zero, 1"):
            self.twice(instruction_by, text)
        self.twice(listing, [115, 0], 64)

    def test_objects_and_images(self):
        units = [lower_module(module) for module in modules_of(TEXTS)]
        colourings = {function[0]: colours_within(chosen(function), 2) for unit in units for function in unit[2]}
        things = [self.twice(object_of, unit, colourings) for unit in units]
        for thing in things:
            for look in (is_object, given_by, wrong_object):
                self.twice(look, thing)
            self.twice(wrong_code, thing, thing[3][0][0])
            self.twice(object_by, self.twice(object_text, thing))
        self.twice(object_by, "object m 8\n")
        archives = [["all", things]]
        for look in (taken, ):
            self.twice(look, things[:1], archives)
        self.twice(unlinked, things)
        self.twice(stack_needed, things, 9)
        self.twice(link, things, archives, 0)
        image = self.twice(link, things[:1], archives, 9, 65536)
        self.twice(data_start, image)
        self.twice(stack_start, image)
        told = self.twice(image_bytes, image)
        self.twice(image_of, list(told))
        self.twice(image_of, list(told[1:]))

    def test_runs_and_the_debugger(self):
        image, _ = self.twice(built, TEXTS, (2, True, ("fold", "join"), 3), 9)
        self.twice(built, TEXTS, (2, True, ("fold", "join"), 12), 9)
        low = [(unit[0], unit[1], tuple(chosen(function) for function in unit[2])) for unit in [lower_module(module) for module in modules_of(TEXTS)]]
        for inputs in ((3, 9, 4), [3, 9, 4]):
            self.twice(run_low, low, inputs, 9, 999)
            for look in (run_image, run_ready, trail, counts, deepest, open_calls):
                self.twice(look, image, inputs, 300)
            self.twice(stops_at, image, inputs, ("top", 4, 3), 300)
            self.twice(word_told, image, inputs, 300, "best", 0)
            for kind in (Machine, ReadyMachine):
                machines = [kind(image, inputs), kind(image, inputs)]
                for machine in machines:
                    machine.go(300)
                self.assertEqual(machines[0].outputs, machines[1].outputs)
                self.assertEqual(machines[0].registers, machines[1].registers)
        self.twice(name_at, image, image[8] + 24)
        self.twice(image_listing, image)


if __name__ == "__main__":
    unittest.main()

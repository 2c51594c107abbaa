"""The examples of the interface, in the order of the document."""

import doctest
import unittest

EXAMPLES = r"""
>>> from trueimage.words import apply, signed, word_of
>>> [word_of(-1), signed(4294967294), apply("sub", 2, 5), apply("sar", 4294967288, 1), apply("divs", 4294967289, 2), apply("remu", 7, 0)]
[4294967295, -2, 4294967293, 4294967292, 4294967293, 7]
>>> from trueimage.meaning import mean
>>> from trueimage.whole import built, modules_of
>>> TEXT = "module m; int row[3] = {5, 7}; int main() { int i = in(); out(row[i]); return 10 / row[2 - i]; }"
>>> [mean(modules_of([TEXT]), (word,), 1, 100)[:2] for word in (1, 0, 3)]
[((7,), ('answer', 1)), ((5,), ('trap', 'zero', ('m', 1, 82))), ((), ('trap', 'bounds', ('m', 1, 66)))]
>>> from trueimage.machine import run_image
>>> image, most = built([TEXT], (0, False, ("fold", "dead"), 3), 1)
>>> [run_image(image, (word,), 1000)[:2] for word in (1, 0, 3)]
[((7,), ('answer', 1)), ((5,), ('trap', 'zero', ('m', 1, 82))), ((), ('trap', 'bounds', ('m', 1, 66)))]
>>> from trueimage.runs import run
>>> from trueimage.units import wrong_together
>>> at = ("m", 1, 1)
>>> twice = ("twice", "int(int)", (), (((0,), (("op", 1, "add", 0, 0, at),), ("return", 1)),))
>>> main = ("main", "int()", (), (((), (("in", 0, at), ("call", 1, "twice", (0,), 1, at), ("out", 1, at)), ("return", 0)),))
>>> unit = ("m", (), (twice, main), ())
>>> [run([unit], (21,), 2, 100), run([unit], (21,), 1, 100)[:2], run([unit], (), 2, 100)[:2], wrong_together([unit, ("n", (), (), (("far", "int()", 0),))])]
[((42,), ('answer', 21), 6), ((), ('trap', 'stack', ('m', 1, 1))), ((), ('trap', 'input', ('m', 1, 1))), [('missing', 'far')]]
>>> from trueimage.witness import is_same_by
>>> shifted = ("twice", "int(int)", (), (((0,), (("const", 2, 1, at), ("op", 1, "shl", 0, 2, at)), ("return", 1)),))
>>> other = ("twice", "int(int)", (), (((0,), (("const", 2, 2, at), ("op", 1, "shl", 0, 2, at)), ("return", 1)),))
>>> witness = ((0, 0, ((0, (0, ((0, 1),))),), (), ((),)),)
>>> [is_same_by(twice, twice, witness), is_same_by(twice, shifted, witness), is_same_by(twice, other, witness), is_same_by(twice, twice, (None,))]
[True, True, False, False]
>>> from trueimage.inlining import placed
>>> late = placed(unit, "main", 0, 1)
>>> [run([late], (21,), 2, 100)[:2], run([late], (21,), 1, 100)[:2], "call" in [row[0] for block in late[2][1][3] for row in block[1]]]
[((42,), ('answer', 21)), ((), ('trap', 'stack', ('m', 1, 1))), False]
>>> from trueimage.lowcode import low_gives, low_uses
>>> [low_gives(("imm", "addi", 7, 3, 1, ("m", 1, 1))), low_uses(("store", 4, "at", 5, 8, ("m", 1, 1))), low_uses(("must", "bne", 2, -1, "zero", ("m", 1, 1)))]
[7, (4, 5), (2,)]
>>> from trueimage.lowcode import low_end_uses, low_hands
>>> [low_hands(("branch", "beq", 1, -1, 2, (3,), 4, ())), low_end_uses(("branch", "beq", 1, -1, 2, (3,), 4, ()))]
[[(2, (3,)), (4, ())], (1, 3)]
>>> from trueimage.choosing import chosen
>>> function = ("main", "int()", (2,), (((), (("in", 0, ("m", 1, 1)), ("const", 1, 7, ("m", 1, 3)), ("op", 2, "mul", 0, 1, ("m", 1, 5))), ("return", 2)),))
>>> low = chosen(function)
>>> [low[0], low[1], len(low[2]), len(low[2][0][0])]
['main', (2,), 1, 1]
>>> from trueimage.choosing import chosen
>>> from trueimage.lowruns import run_low
>>> function = ("main", "int()", (2,), (((), (("in", 0, ("m", 1, 1)), ("const", 1, 7, ("m", 1, 3)), ("op", 2, "mul", 0, 1, ("m", 1, 5))), ("return", 2)),))
>>> low = chosen(function)
>>> [run_low([("m", (), (low,))], [6], 1, 99)[:2], run_low([("m", (), (low,))], [], 1, 99)[:2]]
[((), ('answer', 42)), ((), ('trap', 'input', ('m', 1, 1)))]
>>> from trueimage.lives import is_table, lives
>>> loop = (((0,), (), ("go", 1, (0,))), ((1,), (("imm", "addi", 2, 1, -1, ("m", 1, 1)),), ("branch", "bne", 2, -1, 1, (2,), 2, ())), ((), (), ("return", 0)))
>>> [lives(loop), is_table(loop, ((), (0,), (0,))), is_table(loop, ((), (), (0,))), is_table(loop, ((9,), (0, 9), (0, 9)))]
[((), (0,), (0,)), True, False, True]
>>> from trueimage.colours import colours_of, colours_within, most_alive, spills_in
>>> loop = (((0,), (), ("go", 1, (0,))), ((1,), (("imm", "addi", 2, 1, -1, ("m", 1, 1)),), ("branch", "bne", 2, -1, 1, (2,), 2, ())), ((), (), ("return", 0)))
>>> turn = ("f", (), loop)
>>> [most_alive(turn), spills_in(colours_of(turn)), len(spills_in(colours_within(turn, 1))) > 0]
[2, (), True]
>>> from trueimage.colourcheck import wrong_colours
>>> loop = (((0,), (), ("go", 1, (0,))), ((1,), (("imm", "addi", 2, 1, -1, ("m", 1, 1)),), ("branch", "bne", 2, -1, 1, (2,), 2, ())), ((), (), ("return", 0)))
>>> turn = ("f", (), loop)
>>> table = ((), (0,), (0,))
>>> [wrong_colours(turn, (table, ((0, "r", 8), (1, "r", 9), (2, "r", 9)))), wrong_colours(turn, (table, ((0, "r", 8), (1, "r", 8), (2, "r", 9))))[0]]
[None, 'shared']
>>> from trueimage.colourcheck import wrong_colours
>>> loop = (((0,), (), ("go", 1, (0,))), ((1,), (("imm", "addi", 2, 1, -1, ("m", 1, 1)),), ("branch", "bne", 2, -1, 1, (2,), 2, ())), ((), (), ("return", 0)))
>>> turn = ("f", (), loop)
>>> table = ((), (0,), (0,))
>>> [wrong_colours(turn, (table, ((0, "r", 8), (1, "r", 9))))[0], wrong_colours(turn, (table, ((0, "r", 8), (1, "r", 7), (2, "r", 9))))[0], wrong_colours(turn, (((), (), ()), ((0, "r", 8), (1, "r", 9), (2, "r", 9))))[0]]
['no spot', 'form', 'lives']
>>> from trueimage.moves import fewest_moves, moves_of
>>> ring = [(("r", 8), ("r", 9)), (("r", 9), ("r", 8))]
>>> [len(moves_of(ring)), fewest_moves(ring), fewest_moves(ring + [(("w", 0), ("r", 8))]), moves_of([(("r", 8), ("w", 3))])]
[3, 3, 3, [(('r', 8), ('w', 3))]]
>>> from trueimage.coalescing import moves_in, registers_in
>>> loop = (((0,), (), ("go", 1, (0,))), ((1,), (("imm", "addi", 2, 1, -1, ("m", 1, 1)),), ("branch", "bne", 2, -1, 1, (2,), 2, ())), ((), (), ("return", 0)))
>>> turn = ("f", (), loop)
>>> table = ((), (0,), (0,))
>>> [moves_in(turn, (table, ((0, "r", 8), (1, "r", 9), (2, "r", 9)))), moves_in(turn, (table, ((0, "r", 8), (1, "r", 9), (2, "r", 18)))), registers_in((table, ((0, "r", 8), (1, "w", 0), (2, "r", 8))))]
[1, 2, (8,)]
>>> from trueimage.choosing import chosen
>>> from trueimage.colours import colours_of
>>> from trueimage.emitrows import lines_of
>>> function = ("main", "int()", (2,), (((), (("in", 0, ("m", 1, 1)), ("const", 1, 7, ("m", 1, 3)), ("op", 2, "mul", 0, 1, ("m", 1, 5))), ("return", 2)),))
>>> low = chosen(function)
>>> lines, size = lines_of(low, colours_of(low))
>>> [size % 16, size >= 8, ("label", 0) in lines]
[0, True, True]
>>> from trueimage.forms import decode, encode
>>> [encode(("addi", 1, 2, -1)), encode(("beq", 0, 0, -4)), decode(3211443), decode(0)]
[4293984403, 4261416675, ('add', 1, 2, 3), None]
>>> from trueimage.listing import instruction_by, instruction_text, listing, word_text
>>> [instruction_text(("sw", 2, 10, 8)), instruction_by("lw a0, 8(sp)"), word_text(0), listing((115, 1048691), 64)]
['sw a0, 8(sp)', ('lw', 10, 2, 8), 'word 0', ['64: ecall', '68: ebreak']]
>>> from trueimage.shortlines import same_lines, shortened
>>> p, stop = ("m", 1, 1), ("word", ("ebreak", 0, 0, 0), ("m", 1, 1), None, "told")
>>> old = [("branch", "beq", 8, 9, 1, p), ("jump", 2, p), ("label", 1), ("jump", 3, p), ("label", 2), stop, ("label", 3), ("word", ("addi", 8, 8, 1), p, None, None), stop]
>>> new = [("branch", "bne", 8, 9, 2, p), ("word", ("addi", 8, 8, 1), p, None, None), stop, ("label", 2), stop]
>>> [same_lines(old, new), same_lines(old, new[:-1]), same_lines(old, shortened(old)), len(shortened(old)) <= len(old)]
[True, False, True, True]
>>> from trueimage.forms import decode
>>> from trueimage.assembling import assembled, long_branches
>>> p, stop = ("m", 1, 1), ("word", ("ebreak", 0, 0, 0), ("m", 1, 1), None, "told")
>>> nop = ("word", ("addi", 0, 0, 0), p, None, None)
>>> near, far = [("branch", "beq", 8, 9, 1, p)] + [nop] * 1022 + [("label", 1), stop], [("branch", "beq", 8, 9, 1, p)] + [nop] * 1023 + [("label", 1), stop]
>>> [long_branches(near), long_branches(far), len(assembled(near).words), len(assembled(far).words), [decode(word) for word in assembled(far).words[:2]]]
[{}, {0: True}, 1024, 1026, [('bne', 8, 9, 8), ('jal', 0, 4096, 0)]]
>>> from trueimage.objects import given_by, object_of
>>> rows = (("in", 0, ("m", 2, 1)), ("address", 1, "g", ("m", 3, 1)), ("load", 2, 1, 0, ("m", 3, 5)), ("op", 3, "divs", 2, 0, ("m", 4, 1)), ("check", 0, "zero", ("m", 4, 3)), ("out", 3, ("m", 5, 1)))
>>> unit = ("m", (("g", "int[2]", 2, (5,)),), (("main", "int()", (), (((), rows, ("return", 0)),)),), ())
>>> thing = object_of(unit)
>>> [given_by(thing), thing[0], thing[2], thing[3], thing[9]]
[{'g': ('int[2]', -1), 'main': ('int()', 0)}, 'm', (('g', 'int[2]', 2, (5,)),), (('main', 'int()', 0, 0),), ()]
>>> from trueimage.objects import object_of
>>> from trueimage.objectforms import is_object
>>> rows = (("in", 0, ("m", 2, 1)), ("address", 1, "g", ("m", 3, 1)), ("load", 2, 1, 0, ("m", 3, 5)), ("op", 3, "divs", 2, 0, ("m", 4, 1)), ("check", 0, "zero", ("m", 4, 3)), ("out", 3, ("m", 5, 1)))
>>> unit = ("m", (("g", "int[2]", 2, (5,)),), (("main", "int()", (), (((), rows, ("return", 0)),)),), ())
>>> thing = object_of(unit)
>>> [is_object(thing), is_object(list(thing)), is_object(thing[:10] + (7,))]
[True, False, False]
>>> from trueimage.forms import encode
>>> from trueimage.objects import object_of
>>> from trueimage.codecheck import wrong_code, wrong_object
>>> rows = (("in", 0, ("m", 2, 1)), ("address", 1, "g", ("m", 3, 1)), ("load", 2, 1, 0, ("m", 3, 5)), ("op", 3, "divs", 2, 0, ("m", 4, 1)), ("check", 0, "zero", ("m", 4, 3)), ("out", 3, ("m", 5, 1)))
>>> unit = ("m", (("g", "int[2]", 2, (5,)),), (("main", "int()", (), (((), rows, ("return", 0)),)),), ())
>>> thing = object_of(unit)
>>> bad = thing[:1] + (thing[1][:-1] + (encode(("jalr", 0, 5, 0)),),) + thing[2:]
>>> [wrong_object(thing), wrong_code(thing, "main"), wrong_object(bad)[0]]
[None, None, 'main']
>>> from trueimage.objects import object_of
>>> from trueimage.objecttexts import object_by, object_text
>>> rows = (("in", 0, ("m", 2, 1)), ("address", 1, "g", ("m", 3, 1)), ("load", 2, 1, 0, ("m", 3, 5)), ("op", 3, "divs", 2, 0, ("m", 4, 1)), ("check", 0, "zero", ("m", 4, 3)), ("out", 3, ("m", 5, 1)))
>>> unit = ("m", (("g", "int[2]", 2, (5,)),), (("main", "int()", (), (((), rows, ("return", 0)),)),), ())
>>> thing = object_of(unit)
>>> [object_by(object_text(thing)) == thing]
[True]
>>> from trueimage.objects import object_of
>>> from trueimage.linking import data_start, link, stack_needed, stack_start, taken, unlinked
>>> rows = (("in", 0, ("m", 2, 1)), ("address", 1, "g", ("m", 3, 1)), ("load", 2, 1, 0, ("m", 3, 5)), ("op", 3, "divs", 2, 0, ("m", 4, 1)), ("check", 0, "zero", ("m", 4, 3)), ("out", 3, ("m", 5, 1)))
>>> unit = ("m", (("g", "int[2]", 2, (5,)),), (("main", "int()", (), (((), rows, ("return", 0)),)),), ())
>>> thing = object_of(unit)
>>> image = link([], (("all", (thing,)),), 7, 65536)
>>> [image[8], image[3], image[2] == stack_needed([thing], 7), data_start(image) % 16, stack_start(image) - data_start(image), unlinked([]), len(taken([], (("all", (thing, thing)),)))]
[65536, 7, True, 0, 16, [('missing', 'main')], 1]
>>> from trueimage.objects import object_of
>>> from trueimage.linking import link
>>> from trueimage.imagebytes import image_bytes, image_of
>>> rows = (("in", 0, ("m", 2, 1)), ("address", 1, "g", ("m", 3, 1)), ("load", 2, 1, 0, ("m", 3, 5)), ("op", 3, "divs", 2, 0, ("m", 4, 1)), ("check", 0, "zero", ("m", 4, 3)), ("out", 3, ("m", 5, 1)))
>>> unit = ("m", (("g", "int[2]", 2, (5,)),), (("main", "int()", (), (((), rows, ("return", 0)),)),), ())
>>> thing = object_of(unit)
>>> image = link([], (("all", (thing,)),), 7, 65536)
>>> [image_of(image_bytes(image)) == image]
[True]
>>> from trueimage.objects import object_of
>>> from trueimage.linking import link
>>> from trueimage.machine import run_image
>>> rows = (("in", 0, ("m", 2, 1)), ("address", 1, "g", ("m", 3, 1)), ("load", 2, 1, 0, ("m", 3, 5)), ("op", 3, "divs", 2, 0, ("m", 4, 1)), ("check", 0, "zero", ("m", 4, 3)), ("out", 3, ("m", 5, 1)))
>>> unit = ("m", (("g", "int[2]", 2, (5,)),), (("main", "int()", (), (((), rows, ("return", 0)),)),), ())
>>> thing = object_of(unit)
>>> image = link([], (("all", (thing,)),), 7, 65536)
>>> [run_image(image, [2], 99)[:2], run_image(image, [0], 99)[:2], run_image(image, [], 99)[:2], run_image(image, [2], 3)]
[((2,), ('answer', 2)), ((), ('trap', 'zero', ('m', 4, 3))), ((), ('trap', 'input', ('m', 2, 1))), ((), ('on',), 3)]
>>> from trueimage.objects import object_of
>>> from trueimage.linking import data_start, link
>>> from trueimage.machine import Machine
>>> rows = (("in", 0, ("m", 2, 1)), ("address", 1, "g", ("m", 3, 1)), ("load", 2, 1, 0, ("m", 3, 5)), ("op", 3, "divs", 2, 0, ("m", 4, 1)), ("check", 0, "zero", ("m", 4, 3)), ("out", 3, ("m", 5, 1)))
>>> unit = ("m", (("g", "int[2]", 2, (5,)),), (("main", "int()", (), (((), rows, ("return", 0)),)),), ())
>>> thing = object_of(unit)
>>> image = link([], (("all", (thing,)),), 7, 65536)
>>> machine = Machine(image, [2])
>>> [machine.pc, machine.steps, machine.ended, len(machine.registers), machine.field_at(data_start(image))[0][0], machine.field_at(0)]
[65536, 0, None, 32, 5, (None, 0)]
>>> from trueimage.objects import object_of
>>> from trueimage.linking import link
>>> from trueimage.machine import run_image
>>> from trueimage.readymachine import run_ready
>>> rows = (("in", 0, ("m", 2, 1)), ("address", 1, "g", ("m", 3, 1)), ("load", 2, 1, 0, ("m", 3, 5)), ("op", 3, "divs", 2, 0, ("m", 4, 1)), ("check", 0, "zero", ("m", 4, 3)), ("out", 3, ("m", 5, 1)))
>>> unit = ("m", (("g", "int[2]", 2, (5,)),), (("main", "int()", (), (((), rows, ("return", 0)),)),), ())
>>> thing = object_of(unit)
>>> image = link([], (("all", (thing,)),), 7, 65536)
>>> [run_ready(image, [3], 99) == run_image(image, [3], 99), run_ready(image, [3], 99)[0]]
[True, (1,)]
>>> from trueimage.objects import object_of
>>> from trueimage.linking import link
>>> from trueimage.debugging import deepest, image_listing, name_at, open_calls, trail, word_told
>>> rows = (("in", 0, ("m", 2, 1)), ("address", 1, "g", ("m", 3, 1)), ("load", 2, 1, 0, ("m", 3, 5)), ("op", 3, "divs", 2, 0, ("m", 4, 1)), ("check", 0, "zero", ("m", 4, 3)), ("out", 3, ("m", 5, 1)))
>>> unit = ("m", (("g", "int[2]", 2, (5,)),), (("main", "int()", (), (((), rows, ("return", 0)),)),), ())
>>> thing = object_of(unit)
>>> image = link([], (("all", (thing,)),), 7, 65536)
>>> [trail(image, [2], 99)[0], trail(image, [0], 99)[-1], open_calls(image, [2], 5), word_told(image, [2], 5, "g", 0), name_at(image, 65536 + 24), deepest(image, [2], 99) <= image[2], len(image_listing(image)) - len(image[0])]
[('m', 2, 1), ('m', 4, 3), ('main',), 5, 'main', True, 1]
"""


class ExamplesTest(unittest.TestCase):
    def test_examples(self):
        examples = doctest.DocTestParser().get_doctest(EXAMPLES, {}, "examples", "test_examples.py", 0)
        self.assertGreater(len(examples.examples), 150)
        told = []
        doctest.DocTestRunner(verbose=False).run(examples, out=told.append)
        self.assertEqual("".join(told), "")


if __name__ == "__main__":
    unittest.main()

"""[54]: assembling."""

import itertools
import random
import unittest

from middlefunctions import random_unit
from trueimage.assembling import assembled, long_branches
from trueimage.choosing import chosen
from trueimage.colours import colours_of
from trueimage.emitrows import lines_of
from trueimage.forms import decode, encode

AT = ("m", 1, 1)
STOP = ("word", ("ebreak", 0, 0, 0), AT, None, "told")
NOP = ("word", ("addi", 0, 0, 0), AT, None, None)


def branch(label, op="beq", place=AT):
    return ("branch", op, 8, 9, label, place)


def labels_behind(lines, at):
    """The labels that stand right behind a line."""
    found = set()
    for line in lines[at + 1:]:
        if line[0] != "label":
            break
        found.add(line[1])
    return found


def sizes_of(lines, long):
    sizes = []
    for at, line in enumerate(lines):
        if line[0] == "jump":
            sizes.append(0 if line[1] in labels_behind(lines, at) else 1)
        else:
            sizes.append({"word": 1, "label": 0, "branch": 2 if at in long else 1}[line[0]])
    return sizes


def fits(lines, long):
    """Whether all branches reach, if these ones are long."""
    starts = list(itertools.accumulate(sizes_of(lines, long), initial=0))
    labels = {line[1]: starts[at] for at, line in enumerate(lines) if line[0] == "label"}
    return all(-1024 <= labels[line[4]] - starts[at] <= 1023 for at, line in enumerate(lines) if line[0] == "branch" and at not in long)


def fewest(lines):
    """The fewest branches that can be long, by all choices."""
    branches = [at for at, line in enumerate(lines) if line[0] == "branch"]
    for many in range(len(branches) + 1):
        found = [set(long) for long in itertools.combinations(branches, many) if fits(lines, set(long))]
        if found:
            return found
    raise AssertionError


class BranchesTest(unittest.TestCase):
    def look(self, lines):
        told = long_branches(lines)
        self.assertIsInstance(told, dict)
        self.assertTrue(all(value is True for value in told.values()))
        self.assertIn(set(told), fewest(lines))
        self.assertEqual(len(fewest(lines)), 1)
        return len(told)

    def test_reach(self):
        for many, long in ((0, 0), (1021, 0), (1022, 0), (1023, 1), (1024, 1), (3000, 1)):
            on = [branch(1)] + [NOP] * many + [("label", 1), STOP]
            self.assertEqual(self.look(on), long)
        for many, long in ((0, 0), (1023, 0), (1024, 0), (1025, 1), (3000, 1)):
            back = [("label", 1)] + [NOP] * many + [branch(1), STOP]
            self.assertEqual(self.look(back), long)

    def test_branches_that_make_one_another_long(self):
        # Each one goes past the next one, just so far that one word more is too many.
        for many in (2, 3, 6):
            lines = [branch(at) for at in range(many)] + [NOP] * (1023 - many)
            for at in range(many):
                lines += [("label", at), NOP]
            self.look(lines + [STOP])
            self.look(lines[:many] + [NOP] + lines[many:] + [STOP])
            lines[0:0] = [branch(0)]
            self.look(lines + [STOP])
        self.assertEqual(self.look([branch(at) for at in range(7)] + [NOP] * 1017 + [item for at in range(7) for item in (("label", at), NOP)] + [STOP]), 7)

    def test_random_lines(self):
        counts = set()
        for seed in range(400):
            numbers = random.Random(seed)
            labels = list(range(numbers.randrange(1, 4)))
            lines = []
            for _ in range(numbers.randrange(1, 7)):
                lines += [NOP] * numbers.choice((0, 1, 2, 500, 505, 508, 510, 511, 512, 1018, 1020, 1022))
                lines.append(numbers.choice((branch(numbers.choice(labels)), ("jump", numbers.choice(labels), AT))))
            for label in labels:
                lines.insert(numbers.choice((0, numbers.randrange(len(lines)), len(lines))), ("label", label))
            counts.add(self.look(lines + [STOP]))
        self.assertGreaterEqual(counts, {0, 1, 2, 3})

    def test_keys_are_places_in_the_lines(self):
        lines = [("label", 7), NOP, branch(1)] + [NOP] * 2000 + [("label", 1), STOP]
        self.assertEqual(long_branches(lines), {2: True})


class AssembledTest(unittest.TestCase):
    def run_words(self, words, choices, most):
        """The words that are come to, a branch being taken as the choices tell: all but branches and jumps."""
        at, found = 0, []
        for _ in range(most):
            name, one, other, third = decode(words[at])
            if name == "jal":
                at += other // 4
            elif name[0] == "b":
                test = (one, other, name in ("beq", "blt", "bltu"))
                taken = choices[(one, other)] == test[2]
                at += third // 4 if taken else 1
            else:
                found.append(words[at])
                at += 1
                if name == "ebreak":
                    return found
        return found

    def run_lines(self, lines, choices, most):
        labels = {line[1]: at for at, line in enumerate(lines) if line[0] == "label"}
        at, found = 0, []
        for _ in range(most):
            line = lines[at]
            if line[0] == "word":
                found.append(encode(line[1]))
                if line[1][0] == "ebreak":
                    return found
                at += 1
            elif line[0] == "label":
                at += 1
            elif line[0] == "jump":
                at = labels[line[1]]
            else:
                taken = choices[(line[2], line[3])] == (line[1] in ("beq", "blt", "bltu"))
                at = labels[line[4]] if taken else at + 1
        return found

    def test_random_lines(self):
        for seed in range(300):
            numbers = random.Random(seed)
            labels = list(range(numbers.randrange(1, 5)))
            lines = []
            for _ in range(numbers.randrange(1, 9)):
                lines += [("word", ("addi", 8, 8, numbers.randrange(9)), AT, None, None)] * numbers.choice((1, 2, 3, 1020, 1030))
                one = ("branch", numbers.choice(("beq", "bne", "blt", "bgeu")), numbers.choice((8, 9)), 18, numbers.choice(labels), AT)
                lines.append(numbers.choice((one, one, ("jump", numbers.choice(labels), AT))))
            for label in labels:
                lines.insert(numbers.choice((0, numbers.randrange(len(lines)), len(lines))), ("label", label))
            lines.append(STOP)
            made = assembled(lines)
            self.assertEqual(len(made.words), sum(sizes_of(lines, long_branches(lines))))
            for first, second in itertools.product((False, True), repeat=2):
                choices = {(8, 18): first, (9, 18): second}
                told = self.run_words(made.words, choices, 4000)
                wanted = self.run_lines(lines, choices, 12000)
                many = min(len(told), len(wanted))
                self.assertEqual(told[:many], wanted[:many])
                if wanted[-1:] == [encode(("ebreak", 0, 0, 0))] and many == len(wanted):
                    self.assertEqual(told, wanted)

    def test_parts(self):
        other = ("m", 2, 2)
        lines = [
            ("label", 3), ("word", ("lui", 5, 0, 0), other, ("high", "g", 8), None), ("word", ("lw", 5, 5, 0), other, ("low", "g", 8), None), ("label", 0),
            branch(1, place=None), ("jump", 2, AT), ("label", 1), STOP, ("label", 2), ("jump", 4, None), ("label", 9), ("label", 4),
            ("word", ("jal", 1, 0, 0), AT, ("jump", "f", 0), None), ("word", ("ebreak", 0, 0, 0), other, None, "zero"), ("label", 5),
        ]
        for form in (lines, tuple(lines), [list(line) for line in lines]):
            made = assembled(form)
            self.assertEqual([decode(word) for word in made.words], [
                ("lui", 5, 0, 0), ("lw", 5, 5, 0), ("beq", 8, 9, 8), ("jal", 0, 8, 0), ("ebreak", 0, 0, 0), ("jal", 1, 0, 0), ("ebreak", 0, 0, 0)])
            self.assertEqual(made.places, [other, other, None, AT, AT, AT, other])
            self.assertEqual(made.patches, [(0, "high", "g", 8), (1, "low", "g", 8), (5, "jump", "f", 0)])
            self.assertEqual(made.traps, [(4, "told"), (6, "zero")])
            self.assertEqual(made.labels, {3: 0, 0: 2, 1: 4, 2: 5, 9: 5, 4: 5, 5: 7})

    def test_long_branches(self):
        far = [branch(1, "blt", ("m", 3, 3))] + [NOP] * 1023 + [("label", 1), STOP]
        made = assembled(far)
        self.assertEqual([decode(word) for word in made.words[:2]], [("bge", 8, 9, 8), ("jal", 0, 4096, 0)])
        self.assertEqual(made.places[:3], [("m", 3, 3), ("m", 3, 3), AT])
        self.assertEqual((len(made.words), len(made.places), made.labels), (1026, 1026, {1: 1025}))

    def test_jumps_to_a_label_right_behind(self):
        for between in ([], [("label", 8)], [("label", 8), ("label", 9)]):
            self.assertEqual(len(assembled([("jump", 1, AT)] + between + [("label", 1), STOP]).words), 1)
            self.assertEqual(len(assembled([("jump", 1, AT), NOP] + between + [("label", 1), STOP]).words), 3)
        self.assertEqual(len(assembled([("label", 1), ("jump", 1, AT)]).words), 1)
        # The second one alone stands right ahead of its label.
        made = assembled([("jump", 1, AT), ("jump", 1, AT), ("label", 1), STOP])
        self.assertEqual([decode(word)[0] for word in made.words], ["jal", "ebreak"])

    def test_lines_of_functions(self):
        for seed in range(60):
            for function in random_unit(seed, 8)[2]:
                low = chosen(function)
                lines, _ = lines_of(low, colours_of(low))
                made = assembled(lines)
                self.assertEqual(len(made.places), len(made.words))
                for label in range(len(low[2])):
                    self.assertIn(label, made.labels)
                self.assertTrue(all(decode(word) is not None for word in made.words))
                traps = [line[4] for line in lines if line[0] == "word" and line[4] is not None]
                self.assertEqual([kind for _, kind in made.traps], traps)
                self.assertEqual([patch[1:] for patch in made.patches], [line[3] for line in lines if line[0] == "word" and line[3] is not None])


class EqualTest(unittest.TestCase):
    def test_equal_lines_give_equal_answers(self):
        stop = ("word", ("ebreak", 0, 0, 0), ("m", 1, 1), None, "told")
        lines = [("branch", "beq", 8, 9, 1, ("m", 1, 1)), ("word", ("lui", 5, 0, 0), ("m", 1, 2), ("high", "g", 0), None), ("label", 1), stop]
        self.assertEqual(assembled(lines), assembled(list(lines)))
        for at, other in ((0, ("branch", "bne", 8, 9, 1, ("m", 1, 1))), (0, ("branch", "beq", 8, 9, 1, ("m", 1, 9))), (1, ("word", ("lui", 5, 0, 0), ("m", 1, 2), ("high", "h", 0), None)),
                          (2, ("label", 2)), (3, stop[:4] + ("zero",))):
            changed = lines[:at] + [other] + lines[at + 1:]
            if at == 2:
                changed = changed + [("label", 1), stop]
            self.assertNotEqual(assembled(lines), assembled(changed))
        self.assertNotEqual(assembled(lines), None)


if __name__ == "__main__":
    unittest.main()

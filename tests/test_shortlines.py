"""[53]: shorter lines, and whether lines do the same."""

import random
import unittest

from middlefunctions import random_unit
from programs import random_program
from randomcolours import random_colouring
from support import checked
from trueimage.choosing import chosen
from trueimage.emitrows import lines_of
from trueimage.lowering import lower_module
from trueimage.shortlines import same_lines, shortened

AT = ("m", 1, 1)
STOP = ("word", ("ebreak", 0, 0, 0), AT, None, "told")
BACK = ("word", ("jalr", 0, 1, 0), None, None, None)
TURNED = {"beq": "bne", "bne": "beq", "blt": "bge", "bge": "blt", "bltu": "bgeu", "bgeu": "bltu"}


def word(number, place=AT):
    return ("word", ("addi", 8, 8, number), place, None, None)


def branch(label, op="beq", one=8, other=9):
    return ("branch", op, one, other, label, AT)


def jump(label):
    return ("jump", label, AT)


def past(number=8):
    """A word that goes past the next word."""
    return ("word", ("beq", number, 9, 8), AT, None, None)


class Ways:
    """The ways through lines, gone by this file itself."""

    def __init__(self, lines):
        self.lines = [tuple(line) for line in lines]
        self.labels = {line[1]: at for at, line in enumerate(self.lines) if line[0] == "label"}

    def real(self, at):
        """Where the next word or branch stands, "ring" or "behind"."""
        steps = 0
        while steps <= 2 * len(self.lines):
            if at >= len(self.lines):
                return "behind"
            line = self.lines[at]
            if line[0] in ("word", "branch"):
                return at
            at = at + 1 if line[0] == "label" else self.labels[line[1]]
            steps += 1
        return "ring"

    def told(self, at):
        """What stands there, told so that turned branches are told alike, and where it goes on to."""
        if at == "ring":
            return "ring", []
        line = self.lines[at]
        if line[0] == "branch":
            taken, behind = self.real(self.labels[line[4]]), self.real(at + 1)
            if line[1] in ("bne", "bge", "bgeu"):
                return ("branch", TURNED[line[1]]) + line[2:4], [behind, taken]
            return line[:4], [taken, behind]
        name, first = line[1][:2]
        if name == "ebreak" or name in ("jal", "jalr") and first == 0:
            return line, []
        if name not in TURNED:
            return line, [self.real(at + 1)]
        skipped = at + 1
        while skipped < len(self.lines) and self.lines[skipped][0] == "label":
            skipped += 1
        if skipped >= len(self.lines) or self.lines[skipped][0] != "word":
            return None, []
        return line, [skipped, self.real(skipped + 1)]


def same_by_ways(old, new):
    """Whether lines do the same, by all pairs of places that can be come to."""
    one, other = Ways(old), Ways(new)
    pile = [(one.real(0), other.real(0))]
    seen = set()
    while pile:
        pair = pile.pop()
        if pair in seen:
            continue
        seen.add(pair)
        if "behind" in pair:
            return False
        (first, goals), (second, others) = one.told(pair[0]), other.told(pair[1])
        if first != second or second is None:
            return False
        pile += list(zip(goals, others))
    return True


def random_lines(numbers):
    """Small lines with jumps that go round, branches, and words that go past others."""
    many = numbers.randrange(1, 7)
    labels = list(range(numbers.randrange(1, 5)))
    lines = []
    for _ in range(many):
        form = numbers.randrange(7)
        if form < 2:
            lines.append(word(numbers.randrange(2)))
        elif form < 4:
            lines.append(branch(numbers.choice(labels), numbers.choice(("beq", "bne", "blt")), 8, numbers.choice((9, 18))))
        elif form == 4:
            lines.append(jump(numbers.choice(labels)))
        elif form == 5:
            lines += [past(), numbers.choice((word(3), STOP))]
        else:
            lines.append(numbers.choice((STOP, BACK)))
    lines.append(numbers.choice((STOP, BACK, jump(numbers.choice(labels)))))
    for label in labels:
        at = numbers.randrange(len(lines) + 1)
        while at > 0 and lines[at - 1][0] == "word" and lines[at - 1][1][0] in TURNED:
            at -= 1
        lines.insert(at, ("label", label))
    return lines


def changed(lines, numbers):
    """Lines changed at one place."""
    lines = list(lines)
    at = numbers.randrange(len(lines))
    line = lines[at]
    form = numbers.randrange(8)
    labels = [other[1] for other in lines if other[0] == "label"] or [0]
    if form == 0:
        del lines[at]
    elif form == 1:
        lines.insert(at, numbers.choice((line, word(0), STOP, past())))
    elif form == 2 and line[0] == "branch":
        lines[at] = ("branch", TURNED[line[1]]) + line[2:]
    elif form == 3 and line[0] == "branch":
        lines[at] = line[:4] + (numbers.choice(labels), ("m", 7, 7))
    elif form == 4:
        lines[at] = numbers.choice((jump(numbers.choice(labels)), branch(numbers.choice(labels)), word(1)))
    elif form == 5 and line[0] == "word":
        part = numbers.randrange(1, 5)
        other = (("addi", 8, 8, 5), ("m", 9, 9), ("low", "g", 0), "zero")[part - 1]
        lines[at] = line[:part] + (other,) + line[part + 1:]
    elif form == 6 and at + 1 < len(lines):
        lines[at], lines[at + 1] = lines[at + 1], line
    elif form == 7:
        lines.insert(numbers.randrange(len(lines) + 1), jump(numbers.choice(labels)))
    if not all(other[4] in labels for other in lines if other[0] == "branch"):
        return None
    if not all(other[1] in labels for other in lines if other[0] == "jump"):
        return None
    here = [other[1] for other in lines if other[0] == "label"]
    return lines if len(set(here)) == len(here) and set(labels) <= {*here} | {0} and set(here) >= {*labels} else None


def is_sound(lines):
    """Whether lines are as lines_of makes them: they never go on behind the last one, and words go past words."""
    return same_by_ways(lines, lines)


class SameTest(unittest.TestCase):
    OLD = [branch(1), jump(2), ("label", 1), jump(3), ("label", 2), STOP, ("label", 3), word(1), STOP]

    def test_example(self):
        new = [branch(2, "bne"), word(1), STOP, ("label", 2), STOP]
        self.assertIs(same_lines(self.OLD, new), True)
        self.assertIs(same_lines(self.OLD, new[:-1]), False)
        self.assertIs(same_lines(tuple(self.OLD), tuple(new)), True)

    def test_words(self):
        old = [word(1), ("word", ("lui", 5, 0, 0), None, ("high", "g", 4), None), STOP]
        self.assertTrue(same_lines(old, old))
        for new in (
            [word(2)] + old[1:], [word(1, None)] + old[1:], [word(1, ("m", 1, 2))] + old[1:], old[1:], old[:1] * 2 + old[1:],
            [old[0], old[1][:3] + (None, None), STOP], [old[0], old[1][:3] + (("low", "g", 4), None), STOP],
            [old[0], old[1][:3] + (("high", "h", 4), None), STOP], [old[0], old[1][:3] + (("high", "g", 8), None), STOP],
            old[:2] + [STOP[:4] + ("zero",)], old[:2] + [STOP[:4] + (None,)], old[:2] + [BACK], old[:2], [],
        ):
            self.assertFalse(same_lines(old, new), new)

    def test_what_counts_for_nothing(self):
        old = [word(1), word(2), STOP]
        for new in (
            [("label", 5)] + old, old + [("label", 5)], old + [word(7)], [jump(5), word(9), ("label", 5)] + old,
            [word(1), jump(1), ("label", 2), STOP, ("label", 1), word(2), jump(2)], [word(1), jump(4), ("label", 3), ("label", 4), jump(6), ("label", 6), word(2), STOP],
        ):
            self.assertTrue(same_lines(old, new), new)
            self.assertTrue(same_lines(new, old), new)

    def test_branches(self):
        old = [branch(1), word(1), STOP, ("label", 1), word(2), STOP]
        turned = [branch(1, "bne"), word(2), STOP, ("label", 1), word(1), STOP]
        self.assertTrue(same_lines(old, turned))
        place = [("branch", "beq", 8, 9, 1, None)] + old[1:]
        self.assertTrue(same_lines(old, place))
        for new in (
            [branch(1, "bne")] + old[1:], turned[:1] + old[1:], [branch(1)] + turned[1:], [branch(1, "blt")] + old[1:], [branch(1, "beq", 9, 8)] + old[1:],
            [branch(1, "beq", 8, 18)] + old[1:], old[1:], [word(0)] + old[1:], [("word", ("beq", 8, 9, 8), AT, None, None)] + old[1:],
        ):
            self.assertFalse(same_lines(old, new), new)
        for op, other in TURNED.items():
            one = [branch(1, op), word(1), STOP, ("label", 1), word(2), STOP]
            two = [branch(1, other), word(2), STOP, ("label", 1), word(1), STOP]
            self.assertTrue(same_lines(one, two))
            self.assertFalse(same_lines(one, [branch(1, other)] + one[1:]))

    def test_loops_and_rings(self):
        ring = [("label", 1), jump(2), ("label", 2), jump(1)]
        self.assertTrue(same_lines(ring, [("label", 7), jump(7)]))
        self.assertFalse(same_lines(ring, [("label", 7), word(1), jump(7)]))
        self.assertFalse(same_lines(ring, [STOP]))
        self.assertFalse(same_lines(ring, []))
        self.assertFalse(same_lines([STOP], ring))
        branching = [branch(1), STOP, ("label", 1), jump(1)]
        self.assertTrue(same_lines(branching, [branch(2, "bne"), ("label", 5), jump(6), ("label", 6), jump(5), ("label", 2), STOP]))
        loop = [("label", 1), word(1), branch(1), STOP]
        # A round taken apart is the same loop.
        self.assertTrue(same_lines(loop, [("label", 1), word(1), branch(2, "bne"), word(1), branch(1), ("label", 2), STOP]))
        self.assertFalse(same_lines(loop, [("label", 1), word(1), branch(2, "bne"), word(1), word(1), branch(1), ("label", 2), STOP]))

    def test_words_that_go_past_others(self):
        old = [past(), STOP, word(1), STOP]
        self.assertTrue(same_lines(old, old))
        self.assertTrue(same_lines(old, [past(), ("label", 1), STOP, word(1), STOP]))
        self.assertTrue(same_lines(old, [past(), STOP, jump(2), ("label", 2), word(1), STOP]))
        for new in ([past(), jump(1), ("label", 1), STOP, word(1), STOP], [past(), branch(1), STOP, word(1), ("label", 1), STOP],
                    [past(), STOP], [past(), ("label", 1), jump(2), STOP, ("label", 2), word(1), STOP], [past()], [past(), ("label", 4)]):
            self.assertFalse(same_lines(old, new), new)

    def test_going_on_behind_the_last_line(self):
        for old in ([word(1), STOP], [branch(1), STOP, ("label", 1), STOP]):
            for new in (old[:-1], old[:-1] + [("label", 9)], [jump(9), ("label", 9)], []):
                self.assertFalse(same_lines(old, new))

    def test_small_lines_changed_at_one_place(self):
        found = {True: 0, False: 0}
        for seed in range(12000):
            numbers = random.Random(seed)
            old = random_lines(numbers)
            if not is_sound(old):
                continue
            new = old
            for _ in range(numbers.choice((1, 1, 2, 3))):
                new = changed(new, numbers) if new is not None else None
            if new is not None:
                right = same_by_ways(old, new)
                self.assertIs(same_lines(old, new), right, (old, new))
                found[right] += 1
        self.assertGreater(min(found.values()), 300, found)


class ShortenedTest(unittest.TestCase):
    def look(self, lines):
        short = shortened(lines)
        self.assertTrue(same_by_ways(lines, short), (lines, short))
        self.assertTrue(same_lines(lines, short))
        self.assertLessEqual(len(short), len(lines))
        return len(lines) - len(short)

    def test_small_lines(self):
        fewer = 0
        for seed in range(4000):
            lines = random_lines(random.Random(seed))
            if is_sound(lines):
                fewer += self.look(lines) > 0
        self.assertGreater(fewer, 500)

    def test_example(self):
        self.assertGreater(self.look(SameTest.OLD), 0)
        self.look([("label", 1), jump(1)])
        self.look([STOP])

    def test_lines_of_functions(self):
        fewer = 0
        for seed in range(150):
            numbers = random.Random(seed)
            unit = random_unit(seed, 8) if seed % 3 else lower_module(checked(random_program(seed)[0])[0])
            for function in unit[2]:
                low = chosen(function)
                lines, _ = lines_of(low, random_colouring(low, numbers))
                fewer += self.look(lines) > 0
                self.look_at_changes(lines, numbers)
        self.assertGreater(fewer, 100)

    def look_at_changes(self, lines, numbers):
        for _ in range(6):
            new = changed(lines, numbers)
            if new is not None:
                self.assertIs(same_lines(lines, new), same_by_ways(lines, new))


if __name__ == "__main__":
    unittest.main()

"""Terms [22]: what values are, made of atoms; equal terms stand for equal words and addresses.

The term of a word is (word, sum of atoms); that of an address is (atom of its object, bytes, sum of atoms), in bytes,
so that words modulo 2 to the 30th power are bytes modulo 2 to the 32nd. An atom has a key: what it is told by, which
for a kind of work is (kind, term, term), and ("nought", term) for 1 if the term is 0, else 0.
"""

from trueimage.sums import Sums
from trueimage.words import GREATEST, apply, word_of

NOUGHT = "nought"
# Atoms that are 0 or 1 alone.
TESTS = (NOUGHT, "lts", "ltu")
EITHER_WAY_ROUND = ("mul", "and", "or", "xor")
BYTES = 4


class Terms:
    """All atoms and sums that terms are made of."""

    def __init__(self):
        self.sums = Sums()
        self.numbers = {}
        self.told_by = []

    def atom(self, key):
        """The atom that is told by a key."""
        if key not in self.numbers:
            self.numbers[key] = len(self.told_by)
            self.told_by.append(key)
        return self.numbers[key]

    def leaf(self, key):
        """The term of a word of which no more is known than its key."""
        return (0, self.sums.single(self.atom(key), 1))

    def base(self, key):
        """The term of the address of the beginning of an object, or of one of which no more is known than its key."""
        return (self.atom(key), 0, 0)

    def plus(self, one, other):
        """The sum of two words."""
        return (word_of(one[0] + other[0]), self.sums.plus(one[1], other[1]))

    def times(self, term, word):
        """A word times one that is known."""
        return (word_of(term[0] * word), self.sums.times(term[1], word))

    def minus(self, one, other):
        """A word less another one."""
        return self.plus(one, self.times(other, GREATEST))

    def sum_of(self, word, pairs):
        """A word, and terms times words."""
        term = (word, 0)
        for part, many in pairs:
            term = self.plus(term, self.times(part, many))
        return term

    def behind(self, address, words):
        """So many words behind an address."""
        return (address[0], word_of(address[1] + BYTES * words), address[2])

    def indexed(self, address, term, scale):
        """A term times so many words behind an address."""
        word, atoms = self.times(term, BYTES * scale)
        return (address[0], word_of(address[1] + word), self.sums.plus(address[2], atoms))

    def work(self, kind, one, other):
        """What a kind of work makes of two words."""
        if one[1] == 0 and other[1] == 0:
            return (apply(kind, one[0], other[0]), 0)
        make = WORKS[kind]
        term = make(self, one, other)
        if term is not None:
            return term
        if kind in EITHER_WAY_ROUND and other < one:
            one, other = other, one
        return self.leaf((kind, one, other))

    def nought(self, term):
        """1 if a word is 0, else 0."""
        if term[1] == 0:
            return (1 if term[0] == 0 else 0, 0)
        ends = self._ends_of_test(term)
        if ends is None:
            return self.leaf((NOUGHT, self._without_sign(term)))
        atom, one, other = ends
        # As long as the test is 0 this is a word, and another one if it is 1.
        first = 1 if one == 0 else 0
        second = 1 if other == 0 else 0
        return (first, self.sums.single(atom, word_of(second - first)))

    def turn(self, term):
        """On what it hangs whether a word isn't 0: (core, whether it is so if the core isn't 0), (None, it is so)."""
        positive = True
        while True:
            if term[1] == 0:
                return None, positive == (term[0] != 0)
            ends = self._ends_of_test(term)
            if ends is None:
                return self._without_sign(term), positive
            atom, one, other = ends
            if (one == 0) == (other == 0):
                return None, positive == (one != 0)
            positive = positive == (other != 0)
            key = self.told_by[atom]
            if key[0] != NOUGHT:
                return (0, self.sums.single(atom, 1)), positive
            positive = not positive
            term = key[1]

    def _ends_of_test(self, term):
        """For a sum with one test alone, its atom and the words that it is for 0 and for 1; None for others."""
        alone = self.sums.alone(term[1])
        if alone is None or self.told_by[alone[0]][0] not in TESTS:
            return None
        return alone[0], term[0], word_of(term[0] + alone[1])

    def _without_sign(self, term):
        """One of a word and its negative: the same one for both."""
        return min(term, self.times(term, GREATEST))


def _add(terms, one, other):
    return terms.plus(one, other)


def _sub(terms, one, other):
    return terms.minus(one, other)


def _eq(terms, one, other):
    return terms.nought(terms.minus(one, other))


def _mul(terms, one, other):
    if one[1] == 0:
        return terms.times(other, one[0])
    return terms.times(one, other[0]) if other[1] == 0 else None


def _shl(terms, one, other):
    if other[1] == 0:
        return terms.times(one, 1 << (other[0] & 31))
    return one if one == (0, 0) else None


def _shift(terms, one, other):
    if one == (0, 0) or (other[1] == 0 and other[0] & 31 == 0):
        return one
    return None


def _and(terms, one, other):
    if one == other or other == (GREATEST, 0) or one == (0, 0):
        return one
    return other if one == (GREATEST, 0) or other == (0, 0) else None


def _or(terms, one, other):
    if one == other or other == (0, 0) or one == (GREATEST, 0):
        return one
    return other if one == (0, 0) or other == (GREATEST, 0) else None


def _xor(terms, one, other):
    if one == other:
        return (0, 0)
    for term, word in ((one, other), (other, one)):
        if word == (0, 0):
            return term
        if word == (GREATEST, 0):
            return terms.minus(word, term)
    return None


def _less(terms, one, other):
    return (0, 0) if one == other else None


def _divide(terms, one, other):
    if other == (0, 0):
        return (GREATEST, 0)
    return one if other == (1, 0) else None


def _rest(terms, one, other):
    if other == (0, 0):
        return one
    return (0, 0) if other == (1, 0) else None


WORKS = {
    "add": _add, "sub": _sub, "mul": _mul, "and": _and, "or": _or, "xor": _xor, "shl": _shl, "shr": _shift,
    "sar": _shift, "lts": _less, "ltu": _less, "eq": _eq, "divs": _divide, "rems": _rest, "divu": _divide,
    "remu": _rest,
}

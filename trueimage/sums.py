"""Sums of atoms times words, each sum a number: the same sums have the same number.

An ATOM is a number from 0 on. A sum is a tree that is told by its atoms alone: a fork parts them by the highest bit at
which they are unlike, so two large sums share what they have in common, and to add an atom makes few new forks.
"""

from trueimage.words import word_of


class Sums:
    """All sums that were made; 0 is the sum of nothing."""

    def __init__(self):
        # For each sum: an atom of it, the bit at which it forks (0 for one atom), how often the one atom is taken,
        # and the sums of the atoms without and with this bit.
        self.atoms = [0]
        self.bits = [0]
        self.weights = [0]
        self.lefts = [0]
        self.rights = [0]
        self.singles = {}
        self.forks = {}
        self.multiples = {}

    def _new(self, atom, bit, weight, left, right):
        self.atoms.append(atom)
        self.bits.append(bit)
        self.weights.append(weight)
        self.lefts.append(left)
        self.rights.append(right)
        return len(self.atoms) - 1

    def single(self, atom, weight):
        """The sum of an atom times a word."""
        if weight == 0:
            return 0
        key = (atom, weight)
        if key not in self.singles:
            self.singles[key] = self._new(atom, 0, weight, 0, 0)
        return self.singles[key]

    def _fork(self, bit, left, right):
        if left == 0 or right == 0:
            return left + right
        key = (left, right)
        if key not in self.forks:
            self.forks[key] = self._new(self.atoms[left], bit, 0, left, right)
        return self.forks[key]

    def plus(self, one, other):
        """The sum of two sums."""
        if one == 0 or other == 0:
            return one + other
        if self.bits[one] < self.bits[other]:
            one, other = other, one
        bit = self.bits[one]
        unlike = self.atoms[one] ^ self.atoms[other]
        if unlike >= 2 * bit and unlike > 0:
            return self._apart(one, other, unlike)
        if bit == 0:
            return self.single(self.atoms[one], word_of(self.weights[one] + self.weights[other]))
        left, right = self.lefts[one], self.rights[one]
        if bit == self.bits[other]:
            return self._fork(bit, self.plus(left, self.lefts[other]), self.plus(right, self.rights[other]))
        if self.atoms[other] & bit:
            return self._fork(bit, left, self.plus(right, other))
        return self._fork(bit, self.plus(left, other), right)

    def _apart(self, one, other, unlike):
        """The sum of two sums that share no atom, whose atoms are unlike at these bits."""
        bit = 1 << (unlike.bit_length() - 1)
        if self.atoms[one] & bit:
            return self._fork(bit, other, one)
        return self._fork(bit, one, other)

    def times(self, number, word):
        """A sum times a word."""
        if number == 0 or word == 1:
            return number
        key = (number, word)
        if key not in self.multiples:
            if self.bits[number] == 0:
                many = self.single(self.atoms[number], word_of(self.weights[number] * word))
            else:
                left = self.times(self.lefts[number], word)
                many = self._fork(self.bits[number], left, self.times(self.rights[number], word))
            self.multiples[key] = many
        return self.multiples[key]

    def alone(self, number):
        """The atom and its word of a sum of one atom, None for other sums."""
        if number == 0 or self.bits[number] > 0:
            return None
        return self.atoms[number], self.weights[number]

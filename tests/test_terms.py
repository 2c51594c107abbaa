"""[22], [30]: terms stand for the words that they are made of, whatever is seen through."""

import random
import unittest

from middleruns import TWO32, WORKS
from trueimage.terms import Terms

WORDS = (0, 0, 1, 1, 2, 3, 31, 32, 2 ** 31, 2 ** 31 - 1, 2 ** 32 - 1, 2 ** 32 - 2, 12345)


class TermsTest(unittest.TestCase):
    def pairs(self, sums, number):
        """The atoms of a sum, with how often each is taken."""
        if number == 0:
            return []
        alone = sums.alone(number)
        return [alone] if alone else self.pairs(sums, sums.lefts[number]) + self.pairs(sums, sums.rights[number])

    def worth(self, terms, term, leaves):
        """The word that a term of a word stands for."""
        return (term[0] + sum(self.atom(terms, atom, leaves) * many for atom, many in self.pairs(terms.sums, term[1]))) % TWO32

    def atom(self, terms, atom, leaves):
        key = terms.told_by[atom]
        if key[0] == "leaf":
            return leaves[key[1]]
        if key[0] == "nought":
            return int(self.worth(terms, key[1], leaves) == 0)
        return WORKS[key[0]](self.worth(terms, key[1], leaves), self.worth(terms, key[2], leaves))

    def test_random_terms(self):
        for seed in range(1500):
            numbers = random.Random(seed)
            terms = Terms()
            leaves = [numbers.choice(WORDS) for _ in range(3)]
            found = [(terms.leaf(("leaf", at)), word) for at, word in enumerate(leaves)]
            for _ in range(numbers.randrange(1, 14)):
                kind = numbers.choice(list(WORKS) + ["eq", "eq", "const"])
                one, other = numbers.choice(found), numbers.choice(found[-4:])
                if kind == "const":
                    word = numbers.choice(WORDS)
                    found.append(((word, 0), word))
                else:
                    found.append((terms.work(kind, one[0], other[0]), WORKS[kind](one[1], other[1])))
                term, word = found[-1]
                self.assertEqual(self.worth(terms, term, leaves), word)
                core, positive = terms.turn(term)
                if core is None:
                    self.assertEqual(word != 0, positive)
                else:
                    self.assertEqual(word != 0, (self.worth(terms, core, leaves) != 0) == positive)

    def test_addresses(self):
        for seed in range(300):
            numbers = random.Random(seed)
            terms = Terms()
            leaves = [numbers.choice(WORDS) for _ in range(2)]
            address, words = terms.base(("object", "g")), 0
            for _ in range(numbers.randrange(6)):
                scale = numbers.choice((1, 2, 3, 255, 256))
                if numbers.random() < 0.3:
                    address, words = terms.behind(address, scale - 1), words + scale - 1
                else:
                    at = numbers.randrange(3)
                    term = terms.leaf(("leaf", at)) if at < 2 else (numbers.choice(WORDS), 0)
                    address = terms.indexed(address, term, scale)
                    words += scale * (leaves[at] if at < 2 else term[0])
            self.assertEqual(address[0], terms.base(("object", "g"))[0])
            self.assertEqual(self.worth(terms, address[1:], leaves), 4 * words % TWO32)


if __name__ == "__main__":
    unittest.main()

"""[46]: many moves at once."""

import itertools
import random
import unittest

from trueimage.moves import fewest_moves, moves_of

SPOTS = (("r", 8), ("r", 9), ("w", 0), ("w", 1))
ALL = SPOTS + (("r", 0), ("t", 0))


def after(pairs):
    """What all pairs at once do: for each spot where its word came from."""
    state = {spot: spot for spot in SPOTS}
    state.update(pairs)
    return state


class MovesTest(unittest.TestCase):
    def look(self, pairs):
        moves = moves_of(pairs)
        self.assertIsInstance(moves, list)
        goals = {goal for goal, _ in pairs}
        state = {spot: spot for spot in set(ALL) | goals | {source for _, source in pairs}}
        told = dict(state)
        told.update(pairs)
        for goal, source in moves:
            self.assertIn(goal, goals | {("t", 0)})
            self.assertNotEqual(goal, source)
            state[goal] = state[source]
        for spot in state:
            if spot != ("t", 0):
                self.assertEqual(state[spot], told[spot], (pairs, moves))
        self.assertEqual(len(moves), fewest_moves(pairs), (pairs, moves))
        return len(moves)

    def fewest(self, pairs):
        """The fewest moves that can do it, found by trying all."""
        wanted = after(pairs)
        goals = [goal for goal, _ in pairs] + [("t", 0)]
        first = tuple(ALL)
        front, seen, many = {first}, {first}, 0
        while True:
            for state in front:
                if all(state[ALL.index(spot)] == wanted[spot] for spot in SPOTS):
                    return many
            behind = set()
            for state in front:
                for goal, source in itertools.product(goals, ALL):
                    made = list(state)
                    made[ALL.index(goal)] = state[ALL.index(source)]
                    behind.add(tuple(made))
            front = behind - seen
            seen |= front
            many += 1

    def test_all_pairs_of_three_spots(self):
        for goals in itertools.chain.from_iterable(itertools.combinations(SPOTS[:3], many) for many in range(4)):
            for sources in itertools.product(SPOTS[:3] + (("r", 0),), repeat=len(goals)):
                pairs = list(zip(goals, sources))
                self.assertEqual(self.look(pairs), self.fewest(pairs), pairs)

    def test_all_pairs_of_four_spots(self):
        numbers = random.Random(1)
        for sources in itertools.product(SPOTS, repeat=4):
            pairs = list(zip(SPOTS, sources))
            numbers.shuffle(pairs)
            many = self.look(pairs)
            if numbers.random() < 0.1:
                self.assertEqual(many, self.fewest(pairs), pairs)

    def test_random_pairs(self):
        spots = [("r", number) for number in (8, 9, 18, 19, 20, 28)] + [("w", number) for number in range(14)]
        for seed in range(3000):
            numbers = random.Random(seed)
            goals = numbers.sample(spots, numbers.randrange(len(spots) + 1))
            few = numbers.sample(spots, 5)
            pairs = [(goal, numbers.choice((numbers.choice(spots), numbers.choice(few), ("r", 0)))) for goal in goals]
            if seed % 3 == 0:
                # Whole rounds.
                sources = goals[:]
                numbers.shuffle(sources)
                pairs = list(zip(goals, sources))
            self.look(pairs)
            self.look(tuple(pairs))

    def test_rounds(self):
        ring = [(SPOTS[at], SPOTS[(at + 1) % 4]) for at in range(4)]
        self.assertEqual(self.look(ring), 5)
        two = [(SPOTS[0], SPOTS[1]), (SPOTS[1], SPOTS[0]), (SPOTS[2], SPOTS[3]), (SPOTS[3], SPOTS[2])]
        self.assertEqual(self.look(two), 6)
        # A word of the round that goes elsewhere, too, saves the move.
        self.assertEqual(self.look(two[:2] + [(("w", 7), SPOTS[0])]), 3)
        self.assertEqual(self.look(two + [(("w", 7), SPOTS[0])]), 6)

    def test_small_ones(self):
        self.assertEqual(moves_of([]), [])
        self.assertEqual(fewest_moves([]), 0)
        self.assertEqual(moves_of([(("r", 8), ("r", 8))]), [])
        self.assertEqual(fewest_moves(((("r", 8), ("r", 8)),)), 0)
        self.assertEqual(moves_of([(("r", 8), ("w", 3))]), [(("r", 8), ("w", 3))])
        self.assertEqual(self.look([(("r", 8), ("r", 0)), (("r", 9), ("r", 0)), (("r", 18), ("r", 8))]), 3)

    def test_many(self):
        many = 5000
        chain = [(("w", at), ("w", at + 1)) for at in range(many)]
        self.assertEqual(self.look(chain), many)
        self.assertEqual(self.look(chain[:-1] + [(("w", many - 1), ("w", 0))]), many + 1)


if __name__ == "__main__":
    unittest.main()

"""The walk over chosen code in which spots are given to values [45].

Block comes behind block so that all that lives where a value is given has its spot by then.
"""

from trueimage.flow import Flow, loop_depths
from trueimage.lives import lives, living_behind
from trueimage.lowcode import NOUGHT, low_end_uses, low_gives, low_hands, low_uses

# Loops within one another count no more than so many times.
MOST_DEPTH = 8


class Walk:
    """What is to be known of a function, to give its values spots."""

    def __init__(self, function):
        self.blocks = function[2]
        self.table = lives(self.blocks)
        self.flow = Flow([[goal for goal, _ in low_hands(block[2])] for block in self.blocks])

    def go(self, spots):
        """Go through the function; it is told to spots what begins, is given, and ends living."""
        for number in self.flow.tree:
            params, rows, _ = self.blocks[number]
            deaths, dead, living = self._deaths(number)
            spots.begin(self.table[number])
            for param in params:
                spots.give(param)
            spots.end([param for param in params if param not in living])
            for row, dying in zip(rows, deaths):
                spots.end(dying)
                given = low_gives(row)
                if given is not None:
                    spots.give(given)
                    if given in dead:
                        spots.end([given])

    def _deaths(self, number):
        """For each row of a block the values that it uses last; those never used; what lives behind its params."""
        rows = self.blocks[number][1]
        living = living_behind(self.blocks[number], self.table)
        dead = {}
        deaths = []
        for row in reversed(rows):
            given = low_gives(row)
            if given in living:
                del living[given]
            elif given is not None:
                dead[given] = True
            dying = []
            for value in low_uses(row):
                if value not in living:
                    living[value] = True
                    dying.append(value)
            deaths.append(dying)
        deaths.reverse()
        return deaths, dead, living

    def find_over_calls(self):
        """The values that live over a call, as keys."""
        found = {}
        for number in self.flow.order:
            living = living_behind(self.blocks[number], self.table)
            for row in reversed(self.blocks[number][1]):
                given = low_gives(row)
                if given in living:
                    del living[given]
                if row[0] == "call":
                    found.update(living)
                for value in low_uses(row):
                    living[value] = True
        return found

    def find_weights(self):
        """How much each value is used, in loops more."""
        weights = {}
        depths = loop_depths(self.flow)
        for number in self.flow.order:
            weight = 1 << (3 * min(depths[number], MOST_DEPTH))
            params, rows, end = self.blocks[number]
            used = list(params) + list(low_end_uses(end))
            for row in rows:
                used.extend(low_uses(row))
                if low_gives(row) is not None:
                    used.append(low_gives(row))
            for value in used:
                weights[value] = weights.get(value, 0) + weight
        return weights

    def find_handed(self):
        """How often a value is handed for a param, for pairs of a param and a value."""
        handed = {}
        for number in self.flow.order:
            for goal, args in low_hands(self.blocks[number][2]):
                for param, arg in zip(self.blocks[goal][0], args):
                    if arg != NOUGHT:
                        handed[(param, arg)] = handed.get((param, arg), 0) + 1
        return handed

    def find_partners(self):
        """For each value those that are handed for it, and for which it is handed, the most often ones first."""
        partners = {}
        for _, param, arg in sorted([(-many, param, arg) for (param, arg), many in self.find_handed().items()]):
            partners.setdefault(param, []).append(arg)
            partners.setdefault(arg, []).append(param)
        return partners

    def most_alive(self):
        """The greatest number of values that need unlike spots at one point."""
        most = 0
        for number in self.flow.order:
            together = {value: True for value in list(self.table[number]) + list(self.blocks[number][0])}
            most = max(most, len(together))
            living = living_behind(self.blocks[number], self.table)
            for row in reversed(self.blocks[number][1]):
                given = low_gives(row)
                if given is not None:
                    living[given] = True
                    most = max(most, len(living))
                    del living[given]
                for value in low_uses(row):
                    living[value] = True
        return most

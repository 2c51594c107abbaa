"""Random units whose loads and stores may stand anywhere, behind indexes of all kinds; they are never run."""

import random

from middlefunctions import CALLEES, GLOBALS, FunctionMaker

INDICES = (0, 1, 2, 3, 5, 8, 100, 255, 2 ** 30 - 1, 2 ** 30 + 1, 2 ** 31, 2 ** 32 - 1, 2 ** 32 - 2, 2 ** 32 - 3, 2 ** 32 - 8, 2 ** 32 - 40)


class WildMaker(FunctionMaker):
    def row(self, there, rows):
        if self.random.random() < 0.4:
            return super().row(there, rows)
        address = self.address(there, rows)
        form = self.random.randrange(3)
        at = self.at()
        if form == 0:
            rows.append(("load", self.new("word"), address, self.random.choice((0, 0, 1, 2, 7, 255)), at))
            there.append(rows[-1][1])
        elif form == 1:
            rows.append(("store", address, self.random.choice((0, 0, 1, 2, 7, 255)), self.word(there, rows), at))
        return None

    def index(self, there, rows, at):
        address = self.address(there, rows)
        word = self.word(there, rows)
        if self.random.random() < 0.7:
            word = self.new("word")
            rows.append(("const", word, self.random.choice(INDICES), at))
            there.append(word)
        return ("index", self.new("address", 1), address, word, self.random.choice((1, 1, 2, 3, 256)), at)


def wild_unit(seed, most_blocks=6, most_rows=9):
    """A unit whose last function is wild."""
    maker = WildMaker(random.Random(seed), most_blocks, most_rows, False)
    function = maker.function("wild", "int(int,int[])")
    return ("m", GLOBALS, CALLEES + (function,), ())

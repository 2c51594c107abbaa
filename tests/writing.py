"""Writing texts piece by piece, with the place of each one."""

import random


class Writer:
    """Writes pieces with a blank or, now and then, a line feed behind each one."""

    def __init__(self, seed):
        self.random = random.Random(seed)
        self.text = ""
        self.line = 1
        self.column = 1

    def write(self, piece):
        """Write a piece; the answer is its place."""
        place = (self.line, self.column)
        self.text += piece
        self.column += len(piece)
        if self.random.random() < 0.08:
            self.text += "\n"
            self.line += 1
            self.column = 1
        else:
            self.text += " "
            self.column += 1
        return place

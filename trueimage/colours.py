"""Colourings: which spot each value of chosen code has [45]."""

from trueimage.colourforms import FREE, KEPT, REGISTER, WORD
from trueimage.colourwalk import Walk
from trueimage.webs import Webs

# So many words of a frame at most are those of webs.
MOST_WEBS = 1024


def colours_of(function):
    """A right colouring that uses all registers for values."""
    return _coloured(function, FREE, KEPT)


def colours_within(function, many):
    """A right colouring that uses the first so many kept registers alone."""
    return _coloured(function, (), KEPT[:many])


def most_alive(function):
    """The greatest number of values that need unlike spots at one point."""
    return Walk(function).most_alive()


def spills_in(colouring):
    """The ascending tuple of the values in words of the frame."""
    return tuple([value for value, kind, _ in colouring[1] if kind == WORD])


def _coloured(function, free, kept):
    walk = Walk(function)
    registers = Registers(walk, free, kept)
    walk.go(registers)
    words = Words(walk, registers.spilled)
    walk.go(words)
    spots = [(value, REGISTER, number) for value, number in registers.numbers.items()]
    spots.extend([(value, WORD, number) for value, number in words.numbers.items()])
    return (walk.table, tuple(sorted(spots)))


class Registers:
    """Gives registers to values, and finds those for which there are too few."""

    def __init__(self, walk, free, kept):
        self.over_calls = walk.find_over_calls()
        self.weights = walk.find_weights()
        self.partners = walk.find_partners()
        self.kept = kept
        self.allowed = free + kept
        self.numbers = {}
        self.spilled = {}
        # For each register that is in use at this point the value that has it.
        self.users = {}

    def begin(self, values):
        """A block begins, into which these values live."""
        self.users = {self.numbers[value]: value for value in values if value in self.numbers}

    def end(self, values):
        """These values live no more."""
        for value in values:
            number = self.numbers.get(value, 0)
            if self.users.get(number, None) == value:
                del self.users[number]

    def give(self, value):
        """A value is given."""
        allowed = self.kept if value in self.over_calls else self.allowed
        number = self._unused(value, allowed)
        if number is None:
            number = self._spill(value, allowed)
        if number is not None:
            self.numbers[value] = number
            self.users[number] = value

    def _unused(self, value, allowed):
        """A register that is not in use, one that saves a move if there is one; None if all are."""
        for partner in self.partners.get(value, []):
            number = self.numbers.get(partner, 0)
            if number in allowed and number not in self.users:
                return number
        for number in allowed:
            if number not in self.users:
                return number
        return None

    def _spill(self, value, allowed):
        """One of those that live is spilled: the register that is not in use then, None if it is the value itself."""
        least = self.users[allowed[0]]
        for number in allowed:
            if self.weights[self.users[number]] < self.weights[least]:
                least = self.users[number]
        # Of equal ones that goes which lives longer, mostly.
        if self.weights[value] < self.weights[least]:
            self.spilled[value] = True
            return None
        self.spilled[least] = True
        number = self.numbers[least]
        del self.numbers[least]
        return number


class Words:
    """Gives words of the frame to values that are spilled: those of one web have one word, as far as there are such."""

    def __init__(self, walk, spilled):
        self.spilled = spilled
        self.webs = Webs(walk, spilled)
        self.homes = self.webs.find_homes(MOST_WEBS) if spilled else {}
        self.many = max(list(self.homes.values()), default=-1) + 1
        # The words of values that stand alone.
        self.shared = []
        self.numbers = {}
        self.users = {}

    def begin(self, values):
        """A block begins, into which these values live."""
        self.users = {self.numbers[value]: value for value in values if value in self.spilled}

    def end(self, values):
        """These values live no more."""
        for value in values:
            if value in self.spilled:
                del self.users[self.numbers[value]]

    def give(self, value):
        """A value is given."""
        if value in self.spilled:
            number = self._word_for(value)
            self.numbers[value] = number
            self.users[number] = value

    def _word_for(self, value):
        web = self.webs.web_of(value)
        if web in self.homes:
            return self.homes[web]
        for number in self.shared:
            if number not in self.users:
                return number
        self.shared.append(self.many + len(self.shared))
        return self.shared[-1]

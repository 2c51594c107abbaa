"""Objects [55]: the words of a unit, and what is needed to link them."""

from trueimage.assembling import assembled
from trueimage.choosing import chosen
from trueimage.colourcheck import wrong_colours
from trueimage.colours import colours_of
from trueimage.emitrows import lines_of
from trueimage.errors import BadColours
from trueimage.facts import flow_of
from trueimage.shortlines import shortened
from trueimage.units import IS_GLOBAL, check_unit

LEAST_PACE = 8


class Joining:
    """Joins the words of functions, one behind the other."""

    def __init__(self):
        self.words = []
        self.names = []
        self.patches = []
        self.places = []
        self.traps = []
        self.frames = []
        self.pace = LEAST_PACE

    def take_in(self, function, lines, size):
        """The words of a function come, of these lines and with a frame of so many bytes."""
        name, kind, _, blocks = function
        start = len(self.words)
        made = assembled(shortened(lines))
        self.names.append((name, kind, len(blocks[0][0]), start))
        self.frames.append((name, size))
        self.words.extend(made.words)
        self.places.extend(made.places)
        self.patches.extend([(start + patch[0],) + patch[1:] for patch in made.patches])
        self.traps.extend([(start + at, trap) for at, trap in made.traps])
        self.pace = max(self.pace, _most_words(made, len(blocks)))


def object_of(unit, colourings=None):
    """The object of a unit of middle code, with the colourings that are told for some functions by their names."""
    check_unit(unit)
    name, things, functions, wants = unit
    joining = Joining()
    for function in functions:
        low = chosen(function)
        if colourings is not None and function[0] in colourings:
            colouring = colourings[function[0]]
        else:
            colouring = colours_of(low)
        wrong = wrong_colours(low, colouring)
        if wrong is not None:
            raise BadColours(function[0], wrong[0])
        lines, size = lines_of(low, colouring)
        joining.take_in(function, lines, size)
    return (
        name, tuple(joining.words), things, tuple(joining.names), wants, tuple(joining.patches), tuple(joining.places),
        tuple(joining.traps), tuple(joining.frames), _calls_of(functions), joining.pace,
    )


def _most_words(made, many):
    """The most words of one of so many blocks; what begins a function counts to its first block."""
    starts = [0] + sorted([place for label, place in made.labels.items() if 0 < label < many])
    return max([behind - start for start, behind in zip(starts, starts[1:] + [len(made.words)])])


def _calls_of(functions):
    """The calls of functions: by which one, of which one, how much deeper, and whether it is a tail call."""
    calls = {}
    for name, _, _, blocks in functions:
        for number in flow_of(blocks).order:
            _, rows, end = blocks[number]
            for row in rows:
                if row[0] == "call":
                    calls[(name, row[2], row[4], False)] = True
            if end[0] == "tail":
                calls[(name, end[1], end[3], True)] = True
    return tuple(sorted(calls))


def given_by(thing):
    """For each name that an object gives its kind, and how many words of params it has, -1 for a global."""
    given = {name: (kind, IS_GLOBAL) for name, kind, _, _ in thing[2]}
    for name, kind, many, _ in thing[3]:
        given[name] = (kind, many)
    return given

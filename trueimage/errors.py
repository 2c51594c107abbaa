"""The errors of the program."""


class ImageError(Exception):
    """What every error of the program is."""


class BadThing(ImageError):
    """A value that is none of those that are wanted."""

    def __init__(self, thing):
        self.thing = thing


class BadText(ImageError):
    """A text that is not right, and where."""

    def __init__(self, line, column):
        self.line = line
        self.column = column


class BadProgram(ImageError):
    """A module that is not right, where and why."""

    def __init__(self, place, why):
        self.place = place
        self.why = why


class BadUnit(ImageError):
    """A unit that is not well-formed."""

    def __init__(self, name, why):
        self.name = name
        self.why = why


class BadWitness(ImageError):
    """A witness that does not show what it is to show."""

    def __init__(self, block, why):
        self.block = block
        self.why = why


class BadForm(ImageError):
    """A value that is no instruction, or no text of one."""

    def __init__(self, thing):
        self.thing = thing


class BadColours(ImageError):
    """A colouring that is not right."""

    def __init__(self, name, why):
        self.name = name
        self.why = why


class BadLink(ImageError):
    """Objects that do not go together, and what is wrong with them."""

    def __init__(self, found):
        self.found = found

"""Images that no link has made, for tests of machines."""

from trueimage.forms import encode


def image_of_words(words, data=(), stack=0, traps=(), base=4096, names=(), places=None):
    """An image of words of code, each with a place of its own if none are told."""
    if places is None:
        places = tuple(("m", at + 1, 1) for at in range(len(words)))
    return (tuple(words), tuple(data), stack, 9, tuple(places), tuple(traps), tuple(names), 8, base)


def image_of(instructions, data=(), stack=0, traps=(), base=4096, names=(), places=None):
    """An image of instructions."""
    return image_of_words([encode(instruction) for instruction in instructions], data, stack, traps, base, names, places)


def number_made(register, word):
    """Two instructions that put a word into a register."""
    low = ((word & 0xfff) ^ 0x800) - 0x800
    return [("lui", register, (word - low) >> 12 & 0xfffff, 0), ("addi", register, register, low)]

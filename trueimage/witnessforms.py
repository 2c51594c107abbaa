"""The form of witnesses [23]."""

from trueimage.kindtexts import ADDRESS
from trueimage.middleforms import is_number, is_value, is_word
from trueimage.middlerows import PURE

MOST_RANK = 1000


def is_way(thing):
    """Whether a thing is a way: a tuple of sides."""
    return isinstance(thing, tuple) and all([is_number(side, 0, 1) for side in thing])


def is_entry(thing, turns):
    """Whether a thing is what a witness tells for a block whose end has so many turns; ways are looked at later."""
    if not isinstance(thing, tuple) or len(thing) != 5:
        return False
    stand, rank, told, alike, ways = thing
    if not is_value(stand) or not is_number(rank, 0, MOST_RANK):
        return False
    if not isinstance(told, tuple) or not isinstance(alike, tuple):
        return False
    if not all([_is_pair(pair) for pair in told]) or not all([_is_pair(pair) for pair in alike]):
        return False
    return isinstance(ways, tuple) and len(ways) == turns


def _is_pair(thing):
    """Whether a thing is a pair of a value and a sum."""
    if not isinstance(thing, tuple) or len(thing) != 2 or not is_value(thing[0]):
        return False
    told = thing[1]
    if not isinstance(told, tuple) or len(told) != 2 or not is_word(told[0]) or not isinstance(told[1], tuple):
        return False
    for pair in told[1]:
        if not isinstance(pair, tuple) or len(pair) != 2 or not is_value(pair[0]) or not is_word(pair[1]):
            return False
    return True


def is_sum_for(told, sort, stand, old):
    """Whether a sum is one for something of this sort, of old values that are given ahead of a block's rows."""
    word, pairs = told
    for value, _ in pairs:
        if not old.ahead(value, stand) or old.sorts[value] != sort:
            return False
    return sort != ADDRESS or (word == 0 and len(pairs) == 1 and pairs[0][1] == 1)


def is_told_right(value, told, block, stand, new, old):
    """Whether what is told of a new value can be told."""
    return new.ahead(value, block) and is_sum_for(told, new.sorts[value], stand, old)


def is_alike_right(value, told, stand, old):
    """Whether what is told of an old value can be told: it is a leaf, and is told by other ones."""
    if not old.ahead(value, stand) or value in [part for part, _ in told[1]]:
        return False
    row = old.row_of(value)
    return (row is None or row[0] not in PURE) and is_sum_for(told, old.sorts[value], stand, old)

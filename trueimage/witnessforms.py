"""The form of witnesses [23]."""

from trueimage.kindtexts import ADDRESS
from trueimage.middleforms import are_values, are_words, is_number, is_value
from trueimage.middlerows import PURE

MOST_RANK = 1000


def is_way(thing):
    """Whether a thing is a way: a tuple of sides."""
    return isinstance(thing, tuple) and all([is_number(side, 0, 1) for side in thing])


def is_entry(thing, turns):
    """Whether a thing is what a witness tells for a block whose end has so many turns; ways are looked at later."""
    if not isinstance(thing, tuple) or len(thing) != 5:
        return False
    stand, rank, told, alike, ways = thing
    if not is_value(stand) or not is_number(rank, 0, MOST_RANK):
        return False
    if not isinstance(told, tuple) or not isinstance(alike, tuple):
        return False
    if not _are_pairs(told) or not _are_pairs(alike):
        return False
    return isinstance(ways, tuple) and len(ways) == turns


def _are_pairs(things):
    """Whether things are pairs of a value and a sum."""
    for thing in things:
        if not isinstance(thing, tuple) or len(thing) != 2:
            return False
        told = thing[1]
        if not isinstance(told, tuple) or len(told) != 2 or not isinstance(told[1], tuple):
            return False
    parts = [part for _, (_, pairs) in things for part in pairs]
    if not all([isinstance(part, tuple) and len(part) == 2 for part in parts]):
        return False
    values = tuple([value for value, _ in things] + [value for value, _ in parts])
    return are_values(values) and are_words(tuple([told[0] for _, told in things] + [many for _, many in parts]))


def is_alone(told):
    """Whether a sum is a value alone."""
    word, pairs = told
    return word == 0 and len(pairs) == 1 and pairs[0][1] == 1


def are_told_right(told, block, stand, new, old):
    """Whether what is told of new values can be told where a block begins."""
    if not new.are_ahead([value for value, _ in told], block):
        return False
    return _are_sums_for([(new.sorts[value], by) for value, by in told], stand, old)


def are_alike_right(alike, stand, old):
    """Whether what is told of old values can be told: they are leaves, and are told by other values."""
    if not old.are_ahead([value for value, _ in alike], stand):
        return False
    for value, (_, pairs) in alike:
        row = old.row_of(value)
        if value in [part for part, _ in pairs] or (row is not None and row[0] in PURE):
            return False
    return _are_sums_for([(old.sorts[value], by) for value, by in alike], stand, old)


def _are_sums_for(sums, stand, old):
    """Whether sums are for something of these sorts, of old values that are given ahead of a block's rows."""
    if not old.are_ahead([value for _, (_, pairs) in sums for value, _ in pairs], stand):
        return False
    sorts = old.sorts
    for sort, told in sums:
        if sort == ADDRESS and not is_alone(told):
            return False
        for value, _ in told[1]:
            if sorts[value] != sort:
                return False
    return True

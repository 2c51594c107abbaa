"""Units of middle code, and which of them go together [19]."""

from trueimage.errors import BadUnit
from trueimage.facts import Facts
from trueimage.kindtexts import sorts_told
from trueimage.middle import wrong_function
from trueimage.middleforms import are_words, is_name, is_number
from trueimage.words import GREATEST

MOST_GLOBAL_WORDS = 4096
# How many words of params a global has, as told of things that a unit gives or wants.
IS_GLOBAL = -1


def check_unit(unit):
    """BadUnit for a value that is no well-formed unit."""
    if not isinstance(unit, tuple) or len(unit) != 4 or not is_name(unit[0]):
        raise BadUnit(None, "form")
    name, things, functions, wants = unit
    if not isinstance(things, tuple) or not isinstance(functions, tuple) or not isinstance(wants, tuple):
        raise BadUnit(name, "form")
    for thing in things:
        if not is_global(thing):
            raise BadUnit(name, "global")
    for function in functions:
        why = wrong_function(function)
        if why is not None:
            raise BadUnit(name, why)
    for want in wants:
        if not is_want(want):
            raise BadUnit(name, "want")
    _look_at_names(unit)
    told = {given: (kind, many) for given, kind, many in givens(unit) + list(wants)}
    for function in functions:
        _look_at_calls(function, told)


def givens(unit):
    """The names that a unit gives, its globals first: triples of a name, its kind and how many words of params."""
    found = [(name, kind, IS_GLOBAL) for name, kind, _, _ in unit[1]]
    return found + [(name, kind, len(blocks[0][0])) for name, kind, _, blocks in unit[2]]


def is_global(thing):
    """Whether a thing is a global, as units tell it."""
    if not isinstance(thing, tuple) or len(thing) != 4:
        return False
    name, kind, words, firsts = thing
    if not is_name(name) or not is_name(kind) or not is_number(words, 1, MOST_GLOBAL_WORDS):
        return False
    return are_words(firsts) and len(firsts) <= words


def is_want(thing):
    """Whether a thing is a want, as units tell it."""
    if not isinstance(thing, tuple) or len(thing) != 3 or not is_name(thing[0]) or not is_name(thing[1]):
        return False
    return is_number(thing[2], IS_GLOBAL, GREATEST)


def _look_at_names(unit):
    found = {}
    for name, _, _ in givens(unit):
        if name in found:
            raise BadUnit(name, "given twice")
        found[name] = True
    before = None
    for name, _, _ in unit[3]:
        if name in found:
            raise BadUnit(name, "given and wanted")
        if before is not None and name <= before:
            raise BadUnit(name, "wants")
        before = name


def _look_at_calls(function, told):
    """What calls, tails and addresses name must be there, of the right sorts, in blocks that can be come to."""
    facts = Facts(function)
    for number in facts.flow.order:
        _, rows, end = facts.blocks[number]
        for row in rows:
            if row[0] == "address" and isinstance(row[2], str):
                if row[2] not in told or told[row[2]][1] != IS_GLOBAL:
                    raise BadUnit(function[0], "no such global")
            elif row[0] == "call" and not _is_call(row[2], row[3], told, facts.sorts):
                raise BadUnit(function[0], "call")
        if end[0] == "tail" and not _is_call(end[1], end[2], told, facts.sorts):
            raise BadUnit(function[0], "tail")


def _is_call(name, args, told, sorts):
    if name not in told or told[name][1] == IS_GLOBAL:
        return False
    return sorts_told(told[name][0]) == [sorts[arg] for arg in args]


def wrong_together(units):
    """The list of what is wrong with units together."""
    givers = {}
    found = []
    for unit in units:
        for name, kind, many in givens(unit):
            if name in givers:
                found.append(("doubled", name))
            else:
                givers[name] = (kind, many)
    for unit in units:
        found.extend(wrong_wants(unit[3], givers))
    return found + wrong_main(givers)


def wrong_wants(wants, givers):
    """What is wrong with wants, by what gives each name: its kind and how many words of params."""
    found = []
    for name, kind, many in wants:
        if name not in givers:
            found.append(("missing", name))
        elif givers[name] != (kind, many):
            found.append(("unlike", name))
    return found


def wrong_main(givers):
    """What is wrong with main, by what gives each name."""
    if "main" not in givers:
        return [("missing", "main")]
    return [] if givers["main"][1] == 0 else [("unlike", "main")]

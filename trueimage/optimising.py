"""Passes over functions and units [25]: each makes a witness, and the checker looks each through."""

from trueimage.drafts import Draft, plain_ways
from trueimage.dropping import dead
from trueimage.errors import BadThing
from trueimage.facts import Facts
from trueimage.folding import fold
from trueimage.hoisting import loops
from trueimage.joining import join
from trueimage.leading import thread
from trueimage.repeating import again
from trueimage.sameparams import params
from trueimage.showing import witness_for
from trueimage.witness import factor_of, is_same_by

PASSES = {
    "fold": fold, "params": params, "again": again, "dead": dead, "loops": loops, "join": join, "thread": thread,
}


def pass_of(name, function):
    """What a pass makes of a function, and a witness that is let by."""
    _look_at_names((name,))
    draft = _drafted(name, function)
    new = draft.changed()
    if new != function:
        witness = draft.witness_of(new)
        if is_same_by(function, new, witness):
            return new, witness
    return function, _unchanged(function)


def are_names_of_passes(thing):
    """Whether a thing is a tuple of names of passes."""
    return isinstance(thing, tuple) and all([isinstance(name, str) and name in PASSES for name in thing])


def _look_at_names(names):
    """BadThing for names that are no tuple of the names of passes."""
    if not are_names_of_passes(names):
        raise BadThing(names)


def _drafted(name, function):
    """The draft of a function over which a pass was made."""
    draft = Draft(function)
    change = PASSES[name]
    change(draft)
    return draft


def _unchanged(function):
    """The witness that a function does what it does."""
    facts = Facts(function)
    numbers = list(range(len(function[3])))
    return witness_for(facts, facts, numbers, [plain_ways(end) for _, _, end in function[3]], {})


def _made_by(name, function):
    """What a pass makes of a function, and its number of steps for one."""
    draft = _drafted(name, function)
    new = draft.changed()
    if new != function:
        witness = draft.witness_of(new)
        if is_same_by(function, new, witness):
            return new, factor_of(new, witness)
    return function, 1


def optimised(function, names):
    """What passes make of a function one behind another, and how many steps come at most for one."""
    _look_at_names(names)
    # By what was let by, steps come at most for one, and beside.
    many, beside = 1, 0
    # The passes that change nothing in the function as it is by now, as keys.
    unchanged = {}
    for name in names:
        if name not in unchanged:
            new, factor = _made_by(name, function)
            if new == function:
                unchanged[name] = True
            else:
                many, beside = many * factor, beside * factor + factor
                function = new
                unchanged = {}
    # A run has one step at least, which takes what comes beside.
    return function, many + beside


def optimised_unit(unit, names):
    """What passes make of all functions of a unit, and how many steps come at most for one."""
    _look_at_names(names)
    name, things, functions, wants = unit
    most = 1
    made = []
    for function in functions:
        new, many = optimised(function, names)
        made.append(new)
        most = max(most, many)
    return (name, things, tuple(made), wants), most

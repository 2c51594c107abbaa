"""Whole programs: checked modules of texts, and images made of them by choices [27]."""

from trueimage.checker import check_module, header_of
from trueimage.choosing import chosen
from trueimage.colours import colours_within
from trueimage.errors import BadForm, BadLink, BadProgram, BadThing
from trueimage.inlining import placed_small, unit_with_tails
from trueimage.linking import MOST_LIMIT, link
from trueimage.lowering import lower_module
from trueimage.middleforms import is_number
from trueimage.objects import object_of
from trueimage.optimising import are_names_of_passes, optimised_unit
from trueimage.reader import read_module
from trueimage.units import wrong_together

MOST_PLACED = 8
MOST_COLOURS = 11
# Steps of middle code come at most so many for one of the meaning, and so many more.
STEPS_FOR_ONE = 10


def modules_of(texts):
    """The list of the checked modules of texts, in their order."""
    trees = [read_module(text) for text in texts]
    _look_at_names(trees)
    headers = {}
    for tree in _users_last(trees):
        headers[tree[0]] = header_of(tree, _headers_used(tree, headers))
    return [check_module(tree, _headers_used(tree, headers)) for tree in trees]


def _headers_used(tree, headers):
    """The headers of the modules that one uses."""
    return tuple([headers[name] for name in _names_used(tree)])


def _names_used(tree):
    return [name for name, _ in tree[2]]


def _look_at_names(trees):
    """No two modules have one name."""
    found = {}
    for tree in trees:
        if tree[0] in found:
            raise BadProgram((tree[0], 1, 1), "told twice")
        found[tree[0]] = True


def _users_last(trees):
    """The trees of modules, each one behind those that it uses."""
    found = []
    known = {}
    left = list(trees)
    while left:
        ready = [tree for tree in left if all([name in known for name in _names_used(tree)])]
        if not ready:
            # Each one that is left uses one that lacks, or that is left, too.
            raise BadProgram((left[0][0], 1, 1), "uses")
        found.extend(ready)
        for tree in ready:
            known[tree[0]] = True
        left = [tree for tree in left if tree[0] not in known]
    return found


def built(texts, choice, limit):
    """The image of texts, made by a choice, and how many machine steps come at most for one of the meaning."""
    if not _is_choice(choice):
        raise BadThing(choice)
    made = [_changed(lower_module(module), choice) for module in modules_of(texts)]
    units = [unit for unit, _ in made]
    if not is_number(limit, 1, MOST_LIMIT):
        raise BadThing(limit)
    found = wrong_together(units)
    if found:
        raise BadLink(found)
    image = link(_objects_of(units, choice[3], limit), (), limit)
    # A call put in place makes one step more, at most, of the steps of middle code, of which each makes pace steps.
    most = max([factor for _, factor in made])
    return image, image[7] * (STEPS_FOR_ONE * (1 + choice[0]) * most + 1)


def _objects_of(units, colours, limit):
    """The objects of units, whose values have so many registers, for an image with a limit."""
    objects = []
    for unit in units:
        colourings = {function[0]: colours_within(chosen(function), colours) for function in unit[2]}
        try:
            objects.append(object_of(unit, colourings))
        except BadForm:
            # Only where code has more words than an image may have a jump doesn't reach its label.
            raise BadThing(limit) from None
    return objects


def _is_choice(thing):
    if not isinstance(thing, tuple) or len(thing) != 4:
        return False
    many, tails, passes, colours = thing
    if not is_number(many, 0, MOST_PLACED) or not isinstance(tails, bool) or not is_number(colours, 1, MOST_COLOURS):
        return False
    return are_names_of_passes(passes)


def _changed(unit, choice):
    """A unit with calls put in place, tails and passes as chosen, and how many steps come at most for one by passes."""
    many, tails, passes, _ = choice
    unit = placed_small(unit, many)
    if tails:
        unit = unit_with_tails(unit)
    return optimised_unit(unit, passes)

"""What a module sees: its own structures, globals and functions and those of the modules that it uses [9], [10].

A header is ("header", module, structures, things, functions): structures are tuples (name, words, fields), fields
being tuples (name, kind, words ahead of it), things are the globals, as pairs of a name and a kind, functions
are tuples (name, kind, kinds of params).
"""

from trueimage.errors import BadProgram
from trueimage.kinds import (
    MOST_OF_GLOBAL, MOST_OF_STRUCTURE, MOST_PARAMS, MOST_THINGS, innermost, is_array, is_structure, is_word,
    words_of_param,
)


class View:
    """What a module sees, by names: tuples that begin with the module that tells it."""

    def __init__(self, module):
        self.module = module
        self.structures = {}
        self.things = {}
        self.functions = {}

    def fault(self, place, why):
        """There is a fault at this place."""
        raise BadProgram((self.module, place[0], place[1]), why)

    def tell_structure(self, structure, module, place):
        """A module tells a structure."""
        name, words, fields = structure
        if name in self.structures:
            self.fault(place, "told twice")
        self.structures[name] = (module, words, {field: (kind, ahead) for field, kind, ahead in fields})

    def tell_thing(self, thing, module, place):
        """A module tells a global."""
        name, kind = thing
        self._look_for(name, place)
        self.things[name] = (module, kind)

    def tell_function(self, function, module, place):
        """A module tells a function."""
        name, kind, params = function
        self._look_for(name, place)
        self.functions[name] = (module, kind, params)

    def _look_for(self, name, place):
        if name in self.things or name in self.functions:
            self.fault(place, "told twice")

    def words_of(self, kind):
        """How many words a thing of this kind has."""
        if is_array(kind):
            return kind[2] * self.words_of(kind[1])
        return self.structures[kind[2]][1] if is_structure(kind) else 1

    def kind_told(self, told, many):
        """The kind that a text tells, of an array where it tells how many things."""
        sort, name, place = told
        kind = sort
        if sort == "struct":
            if name not in self.structures:
                self.fault(place, "no such structure")
            kind = ("struct", self.structures[name][0], name)
        if many is None:
            return kind
        if not 1 <= many <= MOST_THINGS:
            self.fault(place, "length")
        return ("array", kind, many)

    def look_at_size(self, kind, most, place):
        """A thing must not have too many words."""
        if self.words_of(kind) > most:
            self.fault(place, "length")

    def look_at_firsts(self, kind, firsts, place):
        """First words must go with the kind of what has them."""
        if firsts is None:
            return
        if firsts[0] == "word" and not is_word(kind):
            self.fault(place, "kind")
        if firsts[0] == "row" and not (is_array(kind) and is_word(kind[1])):
            self.fault(place, "kind")
        if firsts[0] == "row" and len(firsts[1]) > kind[2]:
            self.fault(place, "length")


def view_and_header(tree, headers):
    """What a module sees, and its header, or BadProgram."""
    name, place, uses, items = tree
    view = View(name)
    _look_at_uses(view, uses, place)
    _look_at_headers(view, uses, headers, place)
    for header, (_, spot) in zip(headers, uses):
        _see_header(view, header, uses, spot)
    structures = tuple([_see_structure(view, item) for item in items if item[0] == "struct"])
    things = tuple([_see_global(view, item) for item in items if item[0] == "global"])
    functions = tuple([_see_function(view, item) for item in items if item[0] == "function"])
    return view, ("header", name, structures, things, functions)


def _look_at_uses(view, uses, place):
    names = [name for name, _ in uses]
    if view.module in names or len(set(names)) < len(names):
        view.fault(place, "uses")


def _look_at_headers(view, uses, headers, place):
    if not isinstance(headers, (tuple, list)) or len(headers) != len(uses):
        view.fault(place, "headers")
    for header, (name, spot) in zip(headers, uses):
        if not isinstance(header, tuple) or header[:2] != ("header", name):
            view.fault(spot, "headers")


def _see_header(view, header, uses, place):
    _, module, structures, things, functions = header
    for structure in structures:
        view.tell_structure(structure, module, place)
    kinds = [kind for _, kind in things]
    for _, _, params in functions:
        kinds.extend(params)
    names = [name for name, _ in uses]
    for kind in kinds:
        inner = innermost(kind)
        if is_structure(inner) and inner[1] not in names:
            view.fault(place, "uses")
    for thing in things:
        view.tell_thing(thing, module, place)
    for function in functions:
        view.tell_function(function, module, place)


def _see_structure(view, item):
    _, place, name, told = item
    fields = []
    known = {}
    words = 0
    for sort, field, many, spot in told:
        if field in known:
            view.fault(spot, "told twice")
        known[field] = True
        kind = view.kind_told((sort, "", spot), many)
        fields.append((field, kind, words))
        words += view.words_of(kind)
    if not fields:
        view.fault(place, "no field")
    if words > MOST_OF_STRUCTURE:
        view.fault(place, "length")
    structure = (name, words, tuple(fields))
    view.tell_structure(structure, view.module, place)
    return structure


def _see_global(view, item):
    _, place, told, name, many, _ = item
    kind = view.kind_told(told, many)
    view.look_at_size(kind, MOST_OF_GLOBAL, place)
    view.tell_thing((name, kind), view.module, place)
    return name, kind


def _see_function(view, item):
    _, place, told, name, params, _ = item
    kind = view.kind_told(told, None)
    if is_structure(kind):
        view.fault(place, "kind")
    kinds = tuple([_kind_of_param(view, param) for param in params])
    if sum([words_of_param(param) for param in kinds]) > MOST_PARAMS:
        view.fault(place, "length")
    if name == "main" and (kinds != () or kind != "int"):
        view.fault(place, "main")
    function = (name, kind, kinds)
    view.tell_function(function, view.module, place)
    return function


def _kind_of_param(view, param):
    told, _, is_slice, place = param
    kind = view.kind_told(told, None)
    if is_slice:
        return ("slice", kind)
    if is_structure(kind):
        view.fault(place, "kind")
    return kind

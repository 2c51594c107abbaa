"""Checking modules [9] to [12].

A CHECKED MODULE is ("module", name, headers of the modules that it uses, globals, functions): globals are tuples
(name, kind, words, first words); functions are tuples
(name, kind, kinds of params, cells, words of each slot, rows), the rows as told in trueimage/body.py.
"""

from trueimage.body import Body
from trueimage.checkstatements import check_body
from trueimage.kinds import is_slice, words_of_param
from trueimage.view import view_and_header
from trueimage.words import word_of


def header_of(tree, headers):
    """The header of a module, or BadProgram."""
    return view_and_header(tree, headers)[1]


def check_module(tree, headers):
    """A module as it is when nothing is wrong with it, or BadProgram."""
    view, header = view_and_header(tree, headers)
    things = [item for item in tree[3] if item[0] == "global"]
    functions = [item for item in tree[3] if item[0] == "function"]
    return (
        "module", header[1], tuple(headers),
        tuple([_checked_global(view, item) for item in things]),
        tuple([_checked_function(view, item) for item in functions]),
    )


def _checked_global(view, item):
    _, place, _, name, _, firsts = item
    kind = view.things[name][1]
    view.look_at_firsts(kind, firsts, place)
    words = ()
    if firsts is not None and firsts[0] == "word":
        words = (_first_word(view, firsts[1]),)
    elif firsts is not None:
        words = tuple([_first_word(view, first) for first in firsts[1]])
    return name, kind, view.words_of(kind), words


def _first_word(view, expression):
    sort, what, _, place = expression[0]
    if sort == "number" and len(expression) == 1:
        return what
    if sort != "number" or len(expression) != 2 or expression[1][:2] != ("one", "-"):
        view.fault(place, "no number")
    return word_of(-what)


def _checked_function(view, item):
    _, place, _, name, params, statements = item
    _, answer, kinds = view.functions[name]
    body = Body(view, answer)
    for (_, param, _, spot), kind in zip(params, kinds):
        sort = "slice" if is_slice(kind) else "word"
        body.tell(param, (sort, kind, body.new_cells(words_of_param(kind))), spot)
    check_body(body, statements, place)
    return name, answer, kinds, body.cells, tuple(body.slots), tuple(body.rows)

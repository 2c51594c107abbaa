"""Lowering: checked modules to units of middle code [21]."""

from trueimage.kinds import is_array, is_slice, is_structure, words_of_param
from trueimage.lowerrows import lower_row
from trueimage.middlemaker import MiddleMaker
from trueimage.rowblocks import row_blocks
from trueimage.units import IS_GLOBAL


def lower_module(module):
    """The unit of middle code of a checked module."""
    _, name, headers, things, functions = module
    answers = {}
    for _, _, _, _, told in headers:
        for function, kind, params in told:
            answers[function] = (kind, _words_of_params(params))
    for function, kind, params, _, _, _ in functions:
        answers[function] = (kind, _words_of_params(params))
    return (
        name, tuple([(thing, _kind_text(kind), words, firsts) for thing, kind, words, firsts in things]),
        tuple([_lowered(function, answers) for function in functions]), _wants_of(headers),
    )


def _words_of_params(params):
    return sum([words_of_param(param) for param in params])


def _kind_text(kind):
    """A kind of things as a text."""
    if is_array(kind):
        return _kind_text(kind[1]) + "[" + str(kind[2]) + "]"
    if is_slice(kind):
        return _kind_text(kind[1]) + "[]"
    return kind[1] + "." + kind[2] if is_structure(kind) else kind


def _function_text(kind, params):
    """The kind of a function as a text."""
    return _kind_text(kind) + "(" + ",".join([_kind_text(param) for param in params]) + ")"


def _wants_of(headers):
    wants = []
    for _, _, _, things, functions in headers:
        wants.extend([(name, _kind_text(kind), IS_GLOBAL) for name, kind in things])
        for name, kind, params in functions:
            wants.append((name, _function_text(kind, params), _words_of_params(params)))
    return tuple(sorted(wants))


def _lowered(function, answers):
    name, kind, params, _, slots, rows = function
    return (name, _function_text(kind, params), slots, Lowerer(params, slots, rows, answers).lowered())


class Lowerer:
    """Lowers a function."""

    def __init__(self, params, slots, rows, functions):
        self.params = params
        self.slots = slots
        self.rows = rows
        # What each function that may be called tells, and how many words of params it has.
        self.functions = functions
        self.address_cells = {}
        self.in_loop = False
        self.blocks = row_blocks(rows)
        # For each block of rows the edges that go there; those that go back come when it is made already.
        self.edges = [[] for _ in self.blocks]
        # For the head of each loop, where its block of middle code stands, and the cells of its params.
        self.heads = {}
        self.maker = MiddleMaker(rows[0][2])

    def lowered(self):
        """The blocks of the function."""
        maker = self.maker
        cells = self._first_cells()
        maker.begin([], [cells[cell] for cell in cells], cells, [])
        for number, block in enumerate(self.blocks):
            if number > 0:
                self._begin_block(number, block)
            self.in_loop = block.in_loop
            last = self.rows[block.stop - 1]
            ends = last[0] in ENDS
            for at in range(block.start, block.stop - 1 if ends else block.stop):
                lower_row(self, self.rows[at])
            end = ENDS[last[0]] if ends else _end_jump
            end(self, last, block.nexts)
        return maker.made_blocks()

    def _first_cells(self):
        """The values of the cells that params have."""
        cells = {}
        for param in self.params:
            if is_slice(param):
                self.address_cells[len(cells)] = True
                cells[len(cells)] = self.maker.new_value()
            cells[len(cells)] = self.maker.new_value()
        return cells

    def _begin_block(self, number, block):
        """A block begins: what is unlike on the ways that come there, or is written in its loop, becomes a param."""
        edges = self.edges[number]
        params = []
        cells = {}
        written = block.written if block.written is not None else {}
        for cell in block.lives:
            cells[cell] = self._joined([edge.cells[cell] for edge in edges], cell in written, edges, params)
        pile = []
        for at, entry in enumerate(edges[0].pile):
            value = self._joined([edge.pile[at][1] for edge in edges], False, edges, params)
            pile.append(entry[:1] + (value,) + entry[2:])
        if block.written is not None:
            # Ways back hand all params; those that join values are never written in the loop, so they stay.
            self.heads[number] = (len(self.maker.blocks), dict(cells), params)
        self.maker.begin(edges, params, cells, pile)

    def _joined(self, values, wanted, edges, params):
        """The value that stands for these ones, one for each edge: a param if it is wanted, or they are unlike."""
        if not wanted and all([value == values[0] for value in values]):
            return values[0]
        param = self.maker.new_value()
        params.append(param)
        for edge, value in zip(edges, values):
            edge.handed.append(value)
        return param

    def edge_to(self, number):
        """An edge from here to a block of rows."""
        edge = self.maker.edge()
        if number in self.heads:
            goal, cells, params = self.heads[number]
            edge.goal = goal
            held = {cells[cell]: edge.cells[cell] for cell in cells}
            edge.handed = [held[param] for param in params]
        else:
            self.edges[number].append(edge)
        return edge


def _end_jump(lowerer, row, nexts):
    lowerer.maker.end(("go",), [lowerer.edge_to(nexts[0])])


def _end_if(lowerer, row, nexts):
    test = lowerer.maker.pop_word()
    lowerer.maker.end(("if", test), [lowerer.edge_to(number) for number in nexts])


def _end_case(lowerer, row, nexts):
    maker = lowerer.maker
    test = maker.give("op", "eq", maker.pile[-1][1], maker.give("const", row[3]))
    unlike = lowerer.edge_to(nexts[1])
    maker.pile.pop()
    maker.end(("if", test), [lowerer.edge_to(nexts[0]), unlike])


def _end_return(lowerer, row, nexts):
    lowerer.maker.end(("return", lowerer.maker.pop_word()), [])


def _end_leave(lowerer, row, nexts):
    lowerer.maker.end(("return", lowerer.maker.give("const", 0)), [])


ENDS = {"jump": _end_jump, "if": _end_if, "case": _end_case, "return": _end_return, "leave": _end_leave}

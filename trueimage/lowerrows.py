"""What each row of a checked function is in middle code [21]; the rows are told in trueimage/body.py."""

# So many words at most are cleared one behind another, more in a loop.
MOST_CLEARED_ROWS = 8


def lower_row(lowerer, row):
    """Make what a row is that ends no block."""
    lower = ROWS[row[0]]
    lower(lowerer.maker, row, lowerer)


def _at(maker, place):
    maker.place = place


def _begin(maker, row, lowerer):
    _at(maker, row[2])


def _number(maker, row, lowerer):
    maker.push_word(maker.give("const", row[2]))


def _read(maker, row, lowerer):
    value = maker.cells[row[2]]
    if row[2] in lowerer.address_cells:
        maker.push_address(value, 0)
    else:
        maker.push_word(value)


def _write(maker, row, lowerer):
    maker.cells[row[2]] = maker.pop_word()


def _global(maker, row, lowerer):
    maker.push_address(maker.give("address", row[3]), 0)


def _slot(maker, row, lowerer):
    maker.push_address(maker.give("address", row[2]), 0)


def _clear(maker, row, lowerer):
    words, slot = lowerer.slots[row[2]], row[2]
    # What isn't in a loop is come to once, and slots are all 0 at first.
    if not lowerer.in_loop:
        return
    start = maker.give("address", slot)
    nought = maker.give("const", 0)
    if words <= MOST_CLEARED_ROWS:
        for at in range(words):
            maker.emit(("store", start, at, nought))
    else:
        _clear_in_loop(maker, start, nought, words)


def _clear_in_loop(maker, start, nought, words):
    one = maker.give("const", 1)
    many = maker.give("const", words)
    into = maker.edge()
    into.handed = [nought]
    maker.end(("go",), [into])
    at = maker.new_value()
    back = maker.edge()
    maker.begin([into, back], [at], maker.cells, maker.pile)
    maker.emit(("store", maker.give("index", start, at, 1), 0, nought))
    later = maker.give("op", "add", at, one)
    back.handed = [later]
    test = maker.give("op", "ltu", later, many)
    out = maker.edge()
    maker.end(("if", test), [back, out])
    maker.begin([out], [], maker.cells, maker.pile)


def _field(maker, row, lowerer):
    _, value, ahead = maker.pile.pop()
    maker.push_address(value, ahead + row[2])


def _go_to_thing(maker, row, length):
    """An index, looked at."""
    index = maker.pop_word()
    start = maker.pop_value()
    _at(maker, row[2])
    maker.emit(("check", maker.give("op", "ltu", index, length), "bounds"))
    maker.push_address(maker.give("index", start, index, row[3]), 0)


def _index(maker, row, lowerer):
    _go_to_thing(maker, row, maker.give("const", row[4]))


def _within(maker, row, lowerer):
    _go_to_thing(maker, row, maker.cells[row[4]])


def _load(maker, row, lowerer):
    _, value, ahead = maker.pile.pop()
    maker.push_word(maker.give("load", value, ahead))


def _store(maker, row, lowerer):
    word = maker.pop_word()
    _, value, ahead = maker.pile.pop()
    maker.emit(("store", value, ahead, word))


def _swap(maker, row, lowerer):
    last = maker.pile.pop()
    other = maker.pile.pop()
    maker.pile.extend([last, other])


def _work(maker, row, lowerer):
    last = maker.pop_word()
    maker.push_word(maker.give("op", row[2], maker.pop_word(), last))


def _divide(maker, row, lowerer):
    _at(maker, row[3])
    maker.emit(("check", maker.pile[-1][1], "zero"))
    _work(maker, row, lowerer)


def _drop(maker, row, lowerer):
    maker.pile.pop()


def _call(maker, row, lowerer):
    _, _, place, _, name = row
    kind, many = lowerer.functions[name]
    _at(maker, place)
    args = [maker.pop_value() for _ in range(many)]
    args.reverse()
    answer = maker.give("call", name, tuple(args), 1)
    if kind != "void":
        maker.push_word(answer)


def _out(maker, row, lowerer):
    maker.emit(("out", maker.pop_word()))


def _in_or_more(maker, row, lowerer):
    _at(maker, row[2])
    maker.push_word(maker.give(row[0]))


def _assert(maker, row, lowerer):
    _at(maker, row[2])
    maker.emit(("check", maker.pop_word(), "told"))


ROWS = {
    "begin": _begin, "number": _number, "read": _read, "write": _write, "global": _global, "slot": _slot,
    "clear": _clear, "field": _field, "index": _index, "within": _within, "load": _load, "store": _store,
    "swap": _swap, "work": _work, "divide": _divide, "drop": _drop, "call": _call, "out": _out,
    "in": _in_or_more, "more": _in_or_more, "assert": _assert,
}

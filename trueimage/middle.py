"""Which functions of middle code are well-formed [18]."""

from trueimage.facts import flow_of, givings, sorts_of
from trueimage.kindtexts import sorts_told
from trueimage.middleforms import MOST_PARAMS, is_function_form
from trueimage.middlerows import end_uses, hands, uses


def wrong_function(function):
    """None for a well-formed function, else a word that tells what is wrong."""
    if not is_function_form(function):
        return "form"
    _, kind, slots, blocks = function
    if not _are_params(kind, blocks[0][0]):
        return "params"
    given = givings(blocks)
    if given is None:
        return "given twice"
    for _, rows, end in blocks:
        if not _are_slots_there(rows, slots):
            return "no such slot"
        if slots and end[0] == "tail":
            return "tail"
        if not _are_blocks_there(end, blocks):
            return "no such block"
    flow = flow_of(blocks)
    for number in flow.order:
        if not _are_uses_right(number, blocks[number], given, flow):
            return "not given"
    return None if sorts_of(function, flow) is not None else "sort"


def _are_params(kind, params):
    sorts = sorts_told(kind)
    return sorts is not None and len(sorts) == len(params) <= MOST_PARAMS


def _are_slots_there(rows, slots):
    for row in rows:
        if row[0] == "address" and not isinstance(row[2], str) and row[2] >= len(slots):
            return False
    return True


def _are_blocks_there(end, blocks):
    for goal, args in hands(end):
        if not 0 < goal < len(blocks) or len(args) != len(blocks[goal][0]):
            return False
    return True


def _are_uses_right(number, block, given, flow):
    """Whether all that a block uses is given ahead on every way."""
    _, rows, end = block
    for at, row in enumerate(rows):
        for value in uses(row):
            if not _is_given(value, number, at, given, flow):
                return False
    for value in end_uses(end):
        if not _is_given(value, number, len(rows), given, flow):
            return False
    return True


def _is_given(value, number, at, given, flow):
    if value not in given:
        return False
    home, row = given[value]
    if home == number:
        return row < at
    return flow.passes(home, number)

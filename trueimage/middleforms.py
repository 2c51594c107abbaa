"""The forms of functions of middle code [16], [17]: whether values are tuples of the right parts."""

from trueimage.words import GREATEST, KINDS_OF_WORK

MOST_PARAMS = 7
MOST_SLOT_WORDS = 256
MOST_SCALE = 256
MOST_OFFSET = 255
MOST_DEEPER = 1000
CHECKS = ("bounds", "zero", "told")
TRAPS = ("bounds", "zero", "input", "told", "stack")


def is_number(thing, least, most):
    """Whether a thing is an integer within bounds."""
    return isinstance(thing, int) and not isinstance(thing, bool) and least <= thing <= most


def is_value(thing):
    """Whether a thing is a value: an integer from 0 on."""
    return isinstance(thing, int) and not isinstance(thing, bool) and thing >= 0


def are_values(thing):
    """Whether a thing is a tuple of values."""
    if not isinstance(thing, tuple):
        return False
    # Many are looked at, so each one without a call.
    return all([isinstance(part, int) and not isinstance(part, bool) and part >= 0 for part in thing])


def is_word(thing):
    """Whether a thing is a word."""
    return isinstance(thing, int) and not isinstance(thing, bool) and 0 <= thing <= GREATEST


def are_words(thing):
    """Whether a thing is a tuple of words."""
    return are_values(thing) and all([part <= GREATEST for part in thing])


def is_name(thing):
    """Whether a thing is a name; which texts are names is not looked at."""
    return isinstance(thing, str)


def is_place(thing):
    """Whether a thing is a place of a text."""
    if not isinstance(thing, tuple) or len(thing) != 3:
        return False
    return is_name(thing[0]) and is_word(thing[1]) and is_word(thing[2])


def is_deeper(thing):
    """Whether a thing is a number by which a call runs deeper."""
    return is_number(thing, 1, MOST_DEEPER)


def _is_work(thing):
    return isinstance(thing, str) and thing in KINDS_OF_WORK


def _is_object(thing):
    return isinstance(thing, str) or is_value(thing)


def _is_scale(thing):
    return is_number(thing, 1, MOST_SCALE)


def _is_offset(thing):
    return is_number(thing, 0, MOST_OFFSET)


def _is_check(thing):
    return isinstance(thing, str) and thing in CHECKS


def is_trap(thing):
    """Whether a thing is a kind of traps."""
    return isinstance(thing, str) and thing in TRAPS


ROWS = {
    "const": (is_value, is_word, is_place),
    "op": (is_value, _is_work, is_value, is_value, is_place),
    "address": (is_value, _is_object, is_place),
    "index": (is_value, is_value, is_value, _is_scale, is_place),
    "load": (is_value, is_value, _is_offset, is_place),
    "store": (is_value, _is_offset, is_value, is_place),
    "check": (is_value, _is_check, is_place),
    "call": (is_value, is_name, are_values, is_deeper, is_place),
    "enter": (is_deeper, is_place),
    "out": (is_value, is_place),
    "in": (is_value, is_place),
    "more": (is_value, is_place),
}
ENDS = {
    "go": (is_value, are_values),
    "if": (is_value, is_value, are_values, is_value, are_values),
    "return": (is_value,),
    "tail": (is_name, are_values, is_deeper, is_place),
    "trap": (is_trap, is_place),
}


def has_form(thing, form):
    """Whether a thing is a tuple of a word and parts of this form."""
    if len(thing) != len(form) + 1:
        return False
    for look, part in zip(form, thing[1:]):
        if not look(part):
            return False
    return True


def _is_row(thing):
    if not isinstance(thing, tuple) or not thing or not isinstance(thing[0], str) or thing[0] not in ROWS:
        return False
    return has_form(thing, ROWS[thing[0]])


def _is_end(thing):
    if not isinstance(thing, tuple) or not thing or not isinstance(thing[0], str) or thing[0] not in ENDS:
        return False
    return has_form(thing, ENDS[thing[0]])


def _is_block(thing):
    if not isinstance(thing, tuple) or len(thing) != 3:
        return False
    params, rows, end = thing
    if not are_values(params) or not isinstance(rows, tuple) or not _is_end(end):
        return False
    return all([_is_row(row) for row in rows])


def _is_slot(thing):
    return is_number(thing, 1, MOST_SLOT_WORDS)


def is_function_form(thing):
    """Whether a thing has the form of a function of middle code."""
    if not isinstance(thing, tuple) or len(thing) != 4:
        return False
    name, kind, slots, blocks = thing
    if not is_name(name) or not is_name(kind) or not isinstance(slots, tuple) or not isinstance(blocks, tuple):
        return False
    if not all([_is_slot(words) for words in slots]) or not blocks:
        return False
    return all([_is_block(block) for block in blocks])

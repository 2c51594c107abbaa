"""The form of objects [55]: whether a value is formed so."""

from trueimage.forms import decode
from trueimage.middleforms import MOST_PARAMS, are_words, is_deeper, is_name, is_number, is_place, is_trap, is_word
from trueimage.objects import LEAST_PACE
from trueimage.patches import LIMIT, goes_with
from trueimage.units import IS_GLOBAL, is_global, is_want
from trueimage.words import GREATEST

MOST_FRAME = 16777216
FRAME_STEP = 16
PARTS = 11


def is_object(thing):
    """Whether a value is formed as an object."""
    if not isinstance(thing, tuple) or len(thing) != PARTS:
        return False
    name, words, things, names, wants, patches, places, traps, frames, calls, pace = thing
    if not is_name(name) or not are_words(words) or not is_number(pace, LEAST_PACE, GREATEST):
        return False
    for part in (things, names, wants, patches, places, traps, frames, calls):
        if not isinstance(part, tuple):
            return False
    if not _are_names(things, names, wants, len(words)):
        return False
    if not _are_places(places, len(words)) or not _are_traps(traps, len(words)):
        return False
    functions = [told[0] for told in names]
    callable_names = functions + [told[0] for told in wants if told[2] != IS_GLOBAL]
    known = callable_names + [told[0] for told in things] + [told[0] for told in wants]
    if not _are_patches(patches, words, {told: True for told in known}):
        return False
    return _are_frames(frames, functions) and _are_calls(calls, functions, callable_names)


def _ascend(numbers):
    """Whether each one is greater than the one ahead of it."""
    return all([one < other for one, other in zip(numbers, numbers[1:])])


def _are_names(things, names, wants, many):
    """Whether globals, functions and wants are told rightly, in their orders, no name twice, in so many words."""
    if not all([is_global(thing) for thing in things]) or not all([_is_function(told) for told in names]):
        return False
    if not all([is_want(want) for want in wants]):
        return False
    starts = [told[3] for told in names]
    if not _ascend(starts) or starts[:1] not in ([], [0]) or (starts and starts[-1] >= many):
        return False
    told = [thing[0] for thing in things] + [name[0] for name in names] + [want[0] for want in wants]
    return len(set(told)) == len(told) and _ascend([want[0] for want in wants])


def _is_function(thing):
    if not isinstance(thing, tuple) or len(thing) != 4:
        return False
    name, kind, many, start = thing
    return is_name(name) and is_name(kind) and is_number(many, 0, MOST_PARAMS) and is_word(start)


def _are_places(places, many):
    return len(places) == many and all([place is None or is_place(place) for place in places])


def _is_at_word(thing, parts, many):
    """Whether a thing is a tuple of so many parts, the first one the place of one of so many words."""
    return isinstance(thing, tuple) and len(thing) == parts and is_number(thing[0], 0, many - 1)


def _are_traps(traps, many):
    if not all([_is_at_word(trap, 2, many) and is_trap(trap[1]) for trap in traps]):
        return False
    return _ascend([trap[0] for trap in traps])


def _are_patches(patches, words, known):
    for patch in patches:
        if not _is_at_word(patch, 4, len(words)):
            return False
        at, kind, name, behind = patch
        if not isinstance(kind, str) or not is_name(name) or not is_number(behind, -GREATEST, GREATEST):
            return False
        if not goes_with(kind, decode(words[at])):
            return False
        if (name != "") if kind == LIMIT else (name not in known):
            return False
    return _ascend([patch[0] for patch in patches])


def _are_frames(frames, functions):
    for frame in frames:
        if not isinstance(frame, tuple) or len(frame) != 2 or not is_name(frame[0]):
            return False
        if not is_number(frame[1], 0, MOST_FRAME) or frame[1] & (FRAME_STEP - 1) != 0:
            return False
    return [frame[0] for frame in frames] == functions


def _are_calls(calls, functions, callees):
    for call in calls:
        if not isinstance(call, tuple) or len(call) != 4 or not is_name(call[0]) or not is_name(call[1]):
            return False
        if call[0] not in functions or call[1] not in callees:
            return False
        if not is_deeper(call[2]) or not isinstance(call[3], bool):
            return False
    return _ascend(calls)

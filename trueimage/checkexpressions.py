"""Checking expressions, and the rows that work them out [7], [11], [13].

A CLAIM tells what a part of an expression is: (sort, kind, rows, number):
"word": the rows put a word onto the pile; "local": a local word or a param, in the cell of this number;
"thing": the rows put the address of a thing onto the pile; "slice": of the first thing of a slice, whose first
cell has this number; "nothing": the call of a void function.
"""

from trueimage.kinds import is_array, is_slice, is_structure, is_word

# What a sign does: kind of work for ints, for uints, whether the parts change places, whether it is denied.
WORKS = {
    "+": ("add", "add", False, False), "-": ("sub", "sub", False, False), "*": ("mul", "mul", False, False),
    "/": ("divs", "divu", False, False), "mod": ("rems", "remu", False, False),
    "&": ("and", "and", False, False), "|": ("or", "or", False, False), "^": ("xor", "xor", False, False),
    "<<": ("shl", "shl", False, False), ">>": ("sar", "shr", False, False),
    "==": ("eq", "eq", False, False), "!=": ("eq", "eq", False, True),
    "<": ("lts", "ltu", False, False), ">": ("lts", "ltu", True, False),
    "<=": ("lts", "ltu", True, True), ">=": ("lts", "ltu", False, True),
}
COMPARISONS = ("==", "!=", "<", "<=", ">", ">=")
SHIFTS = ("<<", ">>")
ALL_BITS = 4294967295
DENIAL = (("number", 0, 0), ("work", 0, "eq"))


def claim_of(body, expression):
    """What an expression is."""
    claims = []
    for part in expression:
        claim = PARTS[part[0]]
        claims.append(claim(body, part, claims))
    return claims.pop()


def word_rows(body, claim, place):
    """The rows that put the word onto the pile that a part tells."""
    sort, kind, rows, number = claim
    if sort == "word":
        return rows
    if sort == "local":
        return [("read", 1, number)]
    if sort != "thing" or not is_word(kind):
        body.view.fault(place, "no word")
    return rows + [("load", 1)]


def rows_of(body, expression):
    """The rows that put the word onto the pile that an expression tells."""
    return word_rows(body, claim_of(body, expression), expression[0][3])


def _number(body, part, claims):
    return "word", part[2], [("number", 1, part[1])], 0


def _name(body, part, claims):
    _, name, _, place = part
    if name in body.names:
        sort, kind, number = body.names[name]
        if sort == "word":
            return "local", kind, [], number
        if sort == "slice":
            return "slice", kind, [("read", 0, number)], number
        return "thing", kind, [("slot", 0, number)], number
    if name not in body.view.things:
        body.view.fault(place, "no such name")
    module, kind = body.view.things[name]
    return "thing", kind, [("global", 0, module, name)], 0


def _in_or_more(body, part, claims):
    return "word", "int", [(part[0], 1, body.full_place(part[3]))], 0


def _index(body, part, claims):
    place = part[3]
    index = word_rows(body, claims.pop(), place)
    sort, kind, rows, number = claims.pop()
    if sort not in ("thing", "slice") or not (is_array(kind) or is_slice(kind)):
        body.view.fault(place, "no array")
    words = body.view.words_of(kind[1])
    if is_array(kind):
        last = ("index", 1, body.full_place(place), words, kind[2])
    else:
        last = ("within", 1, body.full_place(place), words, number + 1)
    return "thing", kind[1], rows + index + [last], 0


def _field(body, part, claims):
    _, name, _, place = part
    sort, kind, rows, _ = claims.pop()
    if sort != "thing" or not is_structure(kind):
        body.view.fault(place, "no object")
    fields = body.view.structures[kind[2]][2]
    if name not in fields:
        body.view.fault(place, "no such field")
    inner, ahead = fields[name]
    return "thing", inner, rows + [("field", 1, ahead)], 0


def _length(body, part, claims):
    sort, kind, _, number = claims.pop()
    if sort == "slice":
        return "word", "int", [("read", 1, number + 1)], 0
    if sort != "thing" or not is_array(kind):
        body.view.fault(part[3], "no array")
    return "word", "int", [("number", 1, kind[2])], 0


def _one(body, part, claims):
    claim = claims.pop()
    rows = word_rows(body, claim, part[3])
    if part[1] == "!":
        return "word", "int", rows + [("number", 0, 0), ("work", 1, "eq")], 0
    if part[1] == "~":
        return "word", claim[1], rows + [("number", 0, ALL_BITS), ("work", 1, "xor")], 0
    return "word", claim[1], rows + [("number", 0, 0), ("swap", 0), ("work", 1, "sub")], 0


def _two(body, part, claims):
    _, sign, _, place = part
    right = claims.pop()
    left = claims.pop()
    first = word_rows(body, left, place)
    second = word_rows(body, right, place)
    if sign == "&&":
        return "word", "int", _both(first, second), 0
    if sign == "||":
        return "word", "int", _either(first, second), 0
    kind = left[1] if sign in SHIFTS else _common(left, right)
    rows = first + second + _work(body, sign, kind, place)
    return "word", "int" if sign in COMPARISONS else kind, rows, 0


def _common(left, right):
    return "uint" if "uint" in (left[1], right[1]) else "int"


def _work(body, sign, kind, place):
    with_sign, without, swapped, denied = WORKS[sign]
    work = with_sign if kind == "int" else without
    if sign in ("/", "mod"):
        return [("divide", 1, work, body.full_place(place))]
    rows = [("swap", 0)] if swapped else []
    rows.append(("work", 1, work))
    return rows + list(DENIAL) if denied else rows


def _either_way(test, then, other):
    """The rows for what stands behind a test that holds, and for what stands behind one that doesn't."""
    skip = ("if", 1, len(then) + 1)
    return test + [skip] + then + [("jump", 0, len(other))] + other


def _both(first, second):
    return _either_way(first, second + list(DENIAL + DENIAL), [("number", 0, 0)])


def _either(first, second):
    return _either_way(first, [("number", 0, 1)], second + list(DENIAL + DENIAL))


def _three(body, part, claims):
    other = claims.pop()
    then = claims.pop()
    place = part[3]
    test = word_rows(body, claims.pop(), place)
    rows = _either_way(test, word_rows(body, then, place), word_rows(body, other, place))
    return "word", _common(then, other), rows, 0


def _call(body, part, claims):
    _, name, many, place = part
    if name not in body.view.functions:
        body.view.fault(place, "no such function")
    module, kind, params = body.view.functions[name]
    if many != len(params):
        body.view.fault(place, "number of arguments")
    args = claims[len(claims) - many:]
    del claims[len(claims) - many:]
    rows = []
    for param, claim in zip(params, args):
        if is_slice(param):
            rows.extend(_slice_rows(body, param, claim, place))
        else:
            rows.extend(word_rows(body, claim, place))
    rows.append(("call", 1, body.full_place(place), module, name))
    return "nothing" if kind == "void" else "word", kind, rows, 0


def _slice_rows(body, param, claim, place):
    """The rows that put the address and the length of a slice onto the pile."""
    sort, kind, rows, number = claim
    if sort == "slice" and kind == param:
        return rows + [("read", 0, number + 1)]
    if sort == "thing" and is_array(kind) and kind[1] == param[1]:
        return rows + [("number", 0, kind[2])]
    if sort != "thing" or kind != param[1]:
        body.view.fault(place, "kind")
    return rows + [("number", 0, 1)]


PARTS = {
    "number": _number, "name": _name, "call": _call, "in": _in_or_more, "more": _in_or_more, "index": _index,
    "field": _field, "length": _length, "one": _one, "two": _two, "three": _three,
}

"""Words of 32 bits and what is made of them [3]."""

GREATEST = 4294967295
HALF = 2147483648


def word_of(number):
    """The word that a number is, up to multiples of 2 to the 32nd power."""
    return number & GREATEST


def signed(word):
    """The number that a word stands for with a sign."""
    if word >= HALF:
        return word - GREATEST - 1
    return word


def _add(a, b):
    return word_of(a + b)


def _sub(a, b):
    return word_of(a - b)


def _mul(a, b):
    return word_of(a * b)


def _and(a, b):
    return a & b


def _or(a, b):
    return a | b


def _xor(a, b):
    return a ^ b


def _shl(a, b):
    return word_of(a << (b & 31))


def _shr(a, b):
    return a >> (b & 31)


def _sar(a, b):
    return word_of(signed(a) >> (b & 31))


def _lts(a, b):
    return 1 if signed(a) < signed(b) else 0


def _ltu(a, b):
    return 1 if a < b else 0


def _eq(a, b):
    return 1 if a == b else 0


def _divs(a, b):
    if b == 0:
        return GREATEST
    quotient = abs(signed(a)) // abs(signed(b))
    if (a >= HALF) != (b >= HALF):
        quotient = -quotient
    return word_of(quotient)


def _rems(a, b):
    if b == 0:
        return a
    rest = abs(signed(a)) % abs(signed(b))
    if a >= HALF:
        rest = -rest
    return word_of(rest)


def _divu(a, b):
    return GREATEST if b == 0 else a // b


def _remu(a, b):
    return a if b == 0 else a % b


KINDS_OF_WORK = {
    "add": _add, "sub": _sub, "mul": _mul, "and": _and, "or": _or, "xor": _xor,
    "shl": _shl, "shr": _shr, "sar": _sar, "lts": _lts, "ltu": _ltu, "eq": _eq,
    "divs": _divs, "rems": _rems, "divu": _divu, "remu": _remu,
}


def apply(kind, a, b):
    """What a kind of work makes of two words."""
    work = KINDS_OF_WORK[kind]
    return work(a, b)

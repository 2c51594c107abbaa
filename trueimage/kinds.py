"""Kinds of things [9].

A kind is "int" or "uint" (a word), "void" (of functions alone), ("struct", module, name),
("array", kind of its things, how many) or ("slice", kind of its things). Its first item tells which tuple it is; that
of a text is a letter, which is none of these words.
"""

MOST_OF_STRUCTURE = 256
MOST_OF_LOCAL = 256
MOST_OF_GLOBAL = 4096
MOST_THINGS = 256
MOST_PARAMS = 7


def is_word(kind):
    """Whether a thing of this kind is a word."""
    return kind in ("int", "uint")


def is_array(kind):
    """Whether a thing of this kind is an array."""
    return kind[0] == "array"


def is_structure(kind):
    """Whether a thing of this kind is a structure."""
    return kind[0] == "struct"


def is_slice(kind):
    """Whether a param of this kind is a slice."""
    return kind[0] == "slice"


def innermost(kind):
    """The kind of the things of an array or a slice, the kind itself of others."""
    return kind[1] if is_array(kind) or is_slice(kind) else kind


def words_of_param(kind):
    """How many words a param of this kind has."""
    return 2 if is_slice(kind) else 1

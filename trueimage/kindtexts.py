"""Kinds as texts [16]: what they tell of the params of a function."""

WORD = "word"
ADDRESS = "address"


def sorts_told(kind):
    """The sorts of the params that the kind of a function tells, None for a text that is none."""
    begin = kind.find("(")
    if begin < 0 or not kind.endswith(")"):
        return None
    inner = kind[begin + 1:-1]
    sorts = []
    for part in inner.split(",") if inner != "" else []:
        if part.endswith("[]"):
            sorts.append(ADDRESS)
        sorts.append(WORD)
    return sorts

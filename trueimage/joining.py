"""The pass "join": blocks joined to the only one that goes to them [25]."""


def join(draft):
    """Join blocks of a draft to the only one that goes to them, if that goes nowhere else."""
    flow = draft.facts.flow
    gone = {}
    for number in flow.order:
        if number not in gone:
            end = draft.ends[number]
            while end[0] == "go" and end[1] != number and len(flow.befores[end[1]]) == 1:
                gone[end[1]] = True
                _join_next(draft, number, end)
                end = draft.ends[number]


def _join_next(draft, number, end):
    """Join a block and the one to which its end goes."""
    _, goal, args = end
    for param, arg in zip(draft.facts.blocks[goal][0], args):
        draft.rename_leaf(param, arg)
    draft.rows[number].extend(draft.rows[goal])
    draft.ends[number] = draft.ends[goal]
    ahead = draft.ways[number][0]
    draft.ways[number] = tuple([ahead + way for way in draft.ways[goal]])

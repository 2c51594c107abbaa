"""The pass "dead": rows and params on which nothing hangs [25]."""

from trueimage.middlerows import GIVING, PURE, hands, turned, uses


def dead(draft):
    """Leave rows and params out of a draft on which nothing hangs."""
    facts = draft.facts
    wanted = _wanted(facts)
    for number in facts.flow.order:
        if number > 0:
            draft.params[number] = [param for param in facts.blocks[number][0] if param in wanted]
        draft.rows[number] = [row for row in facts.blocks[number][1] if _does_more(row) or row[1] in wanted]
        goals = []
        for goal, args in hands(draft.ends[number]):
            there = facts.blocks[goal][0]
            goals.append((goal, tuple([arg for arg, param in zip(args, there) if param in wanted])))
        draft.ends[number] = turned(draft.ends[number], goals)


def _does_more(row):
    """Whether a row does more than to give a value."""
    return row[0] not in PURE and row[0] != "load"


def _wanted(facts):
    """The values on which something hangs, as keys."""
    handed = {}
    pile = []
    for number in facts.flow.order:
        _, rows, end = facts.blocks[number]
        for row in rows:
            if _does_more(row):
                pile.extend(uses(row))
        if end[0] in ("if", "return"):
            pile.append(end[1])
        elif end[0] == "tail":
            pile.extend(end[2])
        for goal, args in hands(end):
            for param, arg in zip(facts.blocks[goal][0], args):
                handed.setdefault(param, []).append(arg)
    wanted = {}
    while pile:
        value = pile.pop()
        if value not in wanted:
            wanted[value] = True
            row = facts.row_of(value)
            if row is None:
                pile.extend(handed.get(value, []))
            elif row[0] in GIVING and not _does_more(row):
                pile.extend(uses(row))
    return wanted

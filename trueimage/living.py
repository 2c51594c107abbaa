"""What lives into blocks: what is used later, on some way, before it is given anew."""


def living_into(befores, given, used):
    """For each block the ascending list of what lives into it.

    It is told from which blocks each one is come to, what each gives, and what each uses ahead of giving it.
    """
    users = {}
    for block, values in enumerate(used):
        for value in values:
            users.setdefault(value, []).append(block)
    table = [[] for _ in befores]
    for value in sorted(users):
        pile = list(users[value])
        while pile:
            block = pile.pop()
            row = table[block]
            if not row or row[-1] != value:
                row.append(value)
                pile.extend([before for before in befores[block] if value not in given[before]])
    return table

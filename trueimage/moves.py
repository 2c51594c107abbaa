"""Many moves at once, done one after the other [46]."""

NOUGHT = ("r", 0)
HOLD = ("t", 0)


def _sources_of(pairs):
    """For each goal that isn't its own source the source."""
    return {tuple(goal): tuple(source) for goal, source in pairs if tuple(goal) != tuple(source)}


def moves_of(pairs):
    """Pairs of a goal and a source that, one after the other, do what all pairs at once do, in the fewest moves."""
    sources = _sources_of(pairs)
    # Where the word stands by now that each source had at first.
    stands = {source: source for source in list(sources.values())}
    ready = [goal for goal in sources if goal not in stands]
    left = [goal for goal in sources if goal in stands]
    moves = []
    while ready or left:
        while ready:
            goal = ready.pop()
            source = sources[goal]
            place = stands[source]
            moves.append((goal, place))
            if source != NOUGHT:
                stands[source] = goal
            if place == source and source in sources:
                # Its word stands elsewhere now, so it can take its own.
                ready.append(source)
        if left:
            goal = left.pop()
            if stands[goal] == goal:
                # All sources that are goals are in rounds here, whose words go nowhere else.
                moves.append((HOLD, goal))
                stands[goal] = HOLD
                ready.append(goal)
    return moves


def fewest_moves(pairs):
    """The number of the moves: one for each pair that moves something, and one for each round."""
    sources = _sources_of(pairs)
    readers = {}
    for goal, source in sources.items():
        readers[source] = readers.get(source, 0) + 1
    rounds = 0
    seen = {}
    for goal in sources:
        row = []
        while goal in sources and goal not in seen:
            seen[goal] = True
            row.append(goal)
            goal = sources[goal]
        # It is a round where the row comes back to itself.
        if goal in row:
            members = row[row.index(goal):]
            if all([readers.get(member, 0) == 1 for member in members]):
                rounds += 1
    return len(sources) + rounds

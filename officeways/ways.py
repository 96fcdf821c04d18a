"""What can be reached from a configuration, and by which first moves."""

from officeways.procedure import STATE, step_of


class Ways:
    """The configurations that can be reached, in the order of the first ways to them.

    For each one, before holds the place of the one that its first way comes from, and by its last move.
    """

    def __init__(self, start):
        self.reached = [start]
        self.before = [0]
        self.by = [0]


def ways_from(procedure, start):
    """Breadth first, lesser moves first: so each configuration is met by its first way."""
    ways = Ways(start)
    known = {start: True}
    at = 0
    while at < len(ways.reached):
        for move in range(len(procedure.papers) + 1):
            configuration = step_of(procedure, ways.reached[at], move).configuration
            if configuration not in known:
                known[configuration] = True
                ways.reached.append(configuration)
                ways.before.append(at)
                ways.by.append(move)
        at += 1
    return ways


def moves_to(ways, place):
    """The moves of the first way to the configuration at this place."""
    moves = []
    at = place
    while at > 0:
        moves.append(ways.by[at])
        at = ways.before[at]
    return list(reversed(moves))


def way_to_state(ways, state):
    """The first way to a configuration with this state, as it is answered."""
    for place, configuration in enumerate(ways.reached):
        if configuration[STATE] == state:
            moves = moves_to(ways, place)
            return [1, len(moves)] + moves
    return [0]

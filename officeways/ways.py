"""What can be reached from where, and by which first moves."""

from officeways.procedure import STATE, first_configuration, steps_of


class Ways:
    """All that can be reached from a start, in the order of the first ways to it.

    For each one, before holds the spot of the one that its first way comes from, and by its last move.
    """

    def __init__(self, start):
        self.reached = [start]
        self.known = {start: True}
        self.before = [0]
        self.by = [0]


def explored(start, followers):
    """The Ways from a start, where followers tells what the moves 0, 1 .. make of one that was reached.

    Breadth first, lesser moves first: so each one is met by its first way.
    """
    ways = Ways(start)
    at = 0
    while at < len(ways.reached):
        behind = followers(ways.reached[at])
        for move, met in enumerate(behind):
            if met not in ways.known:
                ways.known[met] = True
                ways.reached.append(met)
                ways.before.append(at)
                ways.by.append(move)
        at += 1
    return ways


def ways_from(procedure, configuration):
    """The Ways from one configuration to others."""
    return explored(configuration, lambda met: [step.configuration for step in steps_of(procedure, met)])


def ways_of(procedure):
    """The Ways to all configurations of a procedure that can be reached."""
    return ways_from(procedure, first_configuration(procedure))


def moves_to(ways, spot):
    """The moves of the first way to the one at this spot."""
    moves = []
    at = spot
    while at > 0:
        moves.append(ways.by[at])
        at = ways.before[at]
    return list(reversed(moves))


def way_to(ways, spot):
    """The first way to the one at this spot, as it is answered."""
    moves = moves_to(ways, spot)
    return [1, len(moves)] + moves


def way_to_state(ways, state):
    """The first way to a configuration with this state, as it is answered."""
    for spot, configuration in enumerate(ways.reached):
        if configuration[STATE] == state:
            return way_to(ways, spot)
    return [0]

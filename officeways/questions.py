"""What is asked of a procedure over all configurations that can be reached, and of two procedures together.

Ways are always those of the procedure (ways_of), charts the dicts that chart_of makes.
"""

from officeways.procedure import first_configuration, is_final, rules_answering, steps_of
from officeways.ways import explored, moves_to, way_to


def chart_of(procedure, ways):
    """For each configuration that can be reached, what each move makes of it."""
    return dict([(configuration, steps_of(procedure, configuration)) for configuration in ways.reached])


def ending_ones(procedure, ways):
    """A dict of the configurations that can be reached from which some moves lead to a final state."""
    chart = chart_of(procedure, ways)
    ending = dict([(configuration, True) for configuration in ways.reached if is_final(procedure, configuration)])
    count = -1
    while len(ending) > count:
        count = len(ending)
        for configuration in ways.reached:
            if any([step.configuration in ending for step in chart[configuration]]):
                ending[configuration] = True
    return ending


def way_to_stuck(procedure, ways):
    ending = ending_ones(procedure, ways)
    for spot, configuration in enumerate(ways.reached):
        if configuration not in ending:
            return way_to(ways, spot)
    return [0]


def first_clash(procedure, ways):
    """The first clash as it is answered. No rule answers in a final state, so final ones need no look."""
    for spot, configuration in enumerate(ways.reached):
        for move in range(len(procedure.papers) + 1):
            rules = rules_answering(procedure, configuration, move)
            if len(rules) > 1:
                moves = moves_to(ways, spot)
                return [1, rules[0], rules[1], move, len(moves)] + moves
    return [0]


def idle_rules(procedure, ways):
    """The numbers of the rules that are never done."""
    done = {}
    for configuration in ways.reached:
        for step in steps_of(procedure, configuration):
            if step.rule_done is not None:
                done[step.rule_done] = True
    return [number for number in range(len(procedure.rules)) if number not in done]


def sight_of(procedure, step):
    """What one sees of a move: the event told, and whether the state is final then."""
    return (step.event, is_final(procedure, step.configuration))


def told_apart(procedure, chart, classes):
    """Each configuration's class by what one sees of each move, and by the class so far of what the move makes."""
    numbers = {}
    finer = {}
    for configuration in chart:
        steps = chart[configuration]
        sights = tuple([(sight_of(procedure, step), classes[step.configuration]) for step in steps])
        finer[configuration] = numbers.setdefault(sights, len(numbers))
    return finer


def count_of_classes(procedure, ways):
    """Each round tells apart by rows of one more move; when a round tells no more apart, none behind it does."""
    chart = chart_of(procedure, ways)
    classes = dict([(configuration, 0) for configuration in ways.reached])
    count = 0
    while max(classes.values()) + 1 > count:
        count = max(classes.values()) + 1
        classes = told_apart(procedure, chart, classes)
    return count


def steps_of_both(charts, pair):
    """For each move the two Steps that it makes of a pair of configurations."""
    return list(zip(charts[0][pair[0]], charts[1][pair[1]]))


def pairs_behind(charts, pair):
    return [(one.configuration, other.configuration) for one, other in steps_of_both(charts, pair)]


def differing_move(procedures, charts, pair):
    """The least move of which one sees different things from a pair, or None."""
    for move, steps in enumerate(steps_of_both(charts, pair)):
        if sight_of(procedures[0], steps[0]) != sight_of(procedures[1], steps[1]):
            return move
    return None


def first_difference(procedures, both_ways):
    """Whether two procedures with as many papers do the same, as it is answered.

    Pairs come in the order of the first ways to them, so the first one that differs ends the first row.
    """
    charts = [chart_of(procedures[0], both_ways[0]), chart_of(procedures[1], both_ways[1])]
    start = (first_configuration(procedures[0]), first_configuration(procedures[1]))
    ways = explored(start, lambda pair: pairs_behind(charts, pair))
    for spot, pair in enumerate(ways.reached):
        move = differing_move(procedures, charts, pair)
        if move is not None:
            moves = moves_to(ways, spot) + [move]
            return [0, len(moves)] + moves
    return [1]

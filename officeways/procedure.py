"""Procedures, their configurations, and what a move makes of a configuration.

A configuration is a tuple: state, age, and a tuple with 1 for each flag that is up, else 0.
It is a tuple so that it can be a key of a dict.
"""

MOST_STATES = 6
MOST_PAPERS = 4
MOST_FLAGS = 2
MOST_RULES = 16

STATE = 0
AGE = 1
FLAGS = 2

# The move "a day ends"; paper i comes by the move i + 1.
DAY_ENDS = 0


class Rule:
    """One rule: which move it is about tells its kind. Days and event are 0 where none are told.

    Condition and changes are lists of pairs: a flag, and 1 for up or 0 for down.
    """

    def __init__(self, source, move, days, condition, target, changes, event):
        self.source = source
        self.move = move
        self.days = days
        self.condition = condition
        self.target = target
        self.changes = changes
        self.event = event


class Procedure:
    """Names of states, papers and flags, for each state whether it is final, and the rules."""

    def __init__(self, states, finals, papers, flags, rules):
        self.states = states
        self.finals = finals
        self.papers = papers
        self.flags = flags
        self.rules = rules
        self.cap = 1 + max([rule.days for rule in rules], default=0)


class Step:
    """What a move made: the configuration then, the event told (0: none), the rule done (None: none)."""

    def __init__(self, configuration, event, rule_done):
        self.configuration = configuration
        self.event = event
        self.rule_done = rule_done


def without_rule(procedure, number):
    """The procedure that is left when a rule is taken out."""
    rules = procedure.rules[:number] + procedure.rules[number + 1:]
    return Procedure(procedure.states, procedure.finals, procedure.papers, procedure.flags, rules)


def first_configuration(procedure):
    return (0, 0, tuple([0 for name in procedure.flags]))


def is_final(procedure, configuration):
    return procedure.finals[configuration[STATE]]


def condition_holds(condition, flags):
    for flag, up in condition:
        if flags[flag] != up:
            return False
    return True


def flags_after(flags, changes):
    later = list(flags)
    for flag, up in changes:
        later[flag] = up
    return tuple(later)


def in_time(rule, age):
    """Whether the rule's days allow it at this age."""
    if rule.move == DAY_ENDS:
        return rule.days == age + 1
    return rule.days == 0 or age <= rule.days


def rule_answers(rule, configuration, move):
    """No rule goes from a final state, so of a final configuration this is never so."""
    return (
        rule.source == configuration[STATE]
        and rule.move == move
        and in_time(rule, configuration[AGE])
        and condition_holds(rule.condition, configuration[FLAGS])
    )


def rules_answering(procedure, configuration, move):
    """The numbers of all rules that answer the move."""
    return [number for number, rule in enumerate(procedure.rules) if rule_answers(rule, configuration, move)]


def first_answering(procedure, configuration, move):
    """The number of the first rule that answers the move, or None."""
    for number, rule in enumerate(procedure.rules):
        if rule_answers(rule, configuration, move):
            return number
    return None


def day_older(procedure, configuration):
    age = min(configuration[AGE] + 1, procedure.cap)
    return (configuration[STATE], age, configuration[FLAGS])


def step_of(procedure, configuration, move):
    """The Step that a move makes of a configuration."""
    if is_final(procedure, configuration):
        return Step(configuration, 0, None)
    number = first_answering(procedure, configuration, move)
    if number is not None:
        rule = procedure.rules[number]
        flags = flags_after(configuration[FLAGS], rule.changes)
        return Step((rule.target, 0, flags), rule.event, number)
    if move == DAY_ENDS:
        return Step(day_older(procedure, configuration), 0, None)
    return Step(configuration, 0, None)


def steps_of(procedure, configuration):
    """The Steps that all moves make of a configuration, in the order of the moves."""
    return [step_of(procedure, configuration, move) for move in range(len(procedure.papers) + 1)]

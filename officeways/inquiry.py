"""The calls that ask a text: reach, stuck, clash, idle, same and classes."""

from officeways.procedure import MOST_STATES
from officeways.questions import count_of_classes, first_clash, first_difference, idle_rules, way_to_stuck
from officeways.records import PLACES, check_place, procedure_at
from officeways.refusals import NoSuchPart, TooMany, check_part, check_range
from officeways.ways import way_to_state, ways_of

MOST_PAIRS = 1000


def answer_reach(records, place, state):
    check_place(place)
    check_range(state, 0, MOST_STATES - 1)
    procedure = procedure_at(records, place)
    check_part(state, procedure.states)
    return way_to_state(ways_of(procedure), state)


def answer_stuck(records, place):
    check_place(place)
    procedure = procedure_at(records, place)
    return way_to_stuck(procedure, ways_of(procedure))


def answer_clash(records, place):
    check_place(place)
    procedure = procedure_at(records, place)
    return first_clash(procedure, ways_of(procedure))


def answer_idle(records, place):
    check_place(place)
    procedure = procedure_at(records, place)
    idle = idle_rules(procedure, ways_of(procedure))
    return [len(idle)] + idle


def answer_same(records):
    procedures = [procedure_at(records, place) for place in range(PLACES)]
    if len(procedures[0].papers) != len(procedures[1].papers):
        raise NoSuchPart()
    both_ways = [ways_of(procedure) for procedure in procedures]
    if len(both_ways[0].reached) * len(both_ways[1].reached) > MOST_PAIRS:
        raise TooMany()
    return first_difference(procedures, both_ways)


def answer_classes(records, place):
    check_place(place)
    procedure = procedure_at(records, place)
    return [count_of_classes(procedure, ways_of(procedure))]

"""The calls about a place: text, shown, sizes and reach."""

from officeways.procedure import MOST_STATES, first_configuration
from officeways.reading import procedure_of
from officeways.records import PLACES, procedure_at, put_procedure
from officeways.refusals import NoSuchPart, TooMany, check_range
from officeways.ways import way_to_state, ways_from
from officeways.writing import one_form

MOST_BYTE = 255
MOST_CONFIGURATIONS = 100


def answer_text(records, place, codes):
    check_range(place, 0, PLACES - 1)
    for code in codes:
        check_range(code, 0, MOST_BYTE)
    procedure = procedure_of(codes)
    ways = ways_from(procedure, first_configuration(procedure))
    if len(ways.reached) > MOST_CONFIGURATIONS:
        raise TooMany()
    put_procedure(records, place, procedure)
    return [len(procedure.rules), len(ways.reached)]


def answer_shown(records, place):
    check_range(place, 0, PLACES - 1)
    return one_form(procedure_at(records, place))


def answer_sizes(records, place):
    check_range(place, 0, PLACES - 1)
    procedure = procedure_at(records, place)
    return [
        len(procedure.states),
        len(procedure.papers),
        len(procedure.flags),
        len(procedure.rules),
        procedure.cap,
    ]


def answer_reach(records, place, state):
    check_range(place, 0, PLACES - 1)
    check_range(state, 0, MOST_STATES - 1)
    procedure = procedure_at(records, place)
    if state >= len(procedure.states):
        raise NoSuchPart()
    return way_to_state(ways_from(procedure, first_configuration(procedure)), state)

"""The calls about the text in a place: text, shown, sizes and drop."""

from officeways.procedure import MOST_RULES, without_rule
from officeways.reading import procedure_of
from officeways.records import check_place, procedure_at, put_procedure
from officeways.refusals import TooMany, check_part, check_range
from officeways.ways import ways_of
from officeways.writing import one_form

MOST_BYTE = 255
MOST_CONFIGURATIONS = 100


def put_if_not_too_many(records, place, procedure):
    """Put the procedure in the place; gives back what text and drop answer."""
    count = len(ways_of(procedure).reached)
    if count > MOST_CONFIGURATIONS:
        raise TooMany()
    put_procedure(records, place, procedure)
    return [len(procedure.rules), count]


def answer_text(records, place, codes):
    check_place(place)
    for code in codes:
        check_range(code, 0, MOST_BYTE)
    return put_if_not_too_many(records, place, procedure_of(codes))


def answer_shown(records, place):
    check_place(place)
    return one_form(procedure_at(records, place))


def answer_sizes(records, place):
    check_place(place)
    procedure = procedure_at(records, place)
    return [
        len(procedure.states),
        len(procedure.papers),
        len(procedure.flags),
        len(procedure.rules),
        procedure.cap,
    ]


def answer_drop(records, place, number):
    check_place(place)
    check_range(number, 0, MOST_RULES - 1)
    procedure = procedure_at(records, place)
    check_part(number, procedure.rules)
    return put_if_not_too_many(records, place, without_rule(procedure, number))

"""What one object keeps from call to call: the procedures in the places, and the open cases."""

from officeways.refusals import NothingThere, check_range

PLACES = 2
CASES = 3


class Case:
    """An open case: its configuration, and the events told to it since it was opened."""

    def __init__(self, configuration, told):
        self.configuration = configuration
        self.told = told


class Records:
    """None stands where a place has no text or a case isn't open."""

    def __init__(self):
        self.procedures = [None] * PLACES
        self.cases = [None] * CASES


def check_place(place):
    check_range(place, 0, PLACES - 1)


def check_case(number):
    check_range(number, 0, CASES - 1)


def procedure_at(records, place):
    procedure = records.procedures[place]
    if procedure is None:
        raise NothingThere()
    return procedure


def case_at(records, number):
    """A case is open only while place 0 has the text it was opened by, so the place isn't asked."""
    case = records.cases[number]
    if case is None:
        raise NothingThere()
    return case


def put_procedure(records, place, procedure):
    """Cases run by place 0, so none goes on when its procedure is another."""
    records.procedures[place] = procedure
    if place == 0:
        records.cases = [None] * CASES

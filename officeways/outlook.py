"""The calls that ask where a case may get: waiting, until and toward. The case itself stays as it is."""

from officeways.procedure import DAY_ENDS, MOST_PAPERS, MOST_STATES, first_answering, is_final, step_of
from officeways.records import case_at, check_case, procedure_at
from officeways.refusals import check_part, check_range
from officeways.ways import way_to_state, ways_from

DAYS_AHEAD = 100


def days_until_final(procedure, start):
    """How many days have to end until the state is final, or None: a configuration met again comes round for ever."""
    met = {}
    configuration = start
    while configuration not in met:
        if is_final(procedure, configuration):
            return len(met)
        met[configuration] = True
        configuration = step_of(procedure, configuration, DAY_ENDS).configuration
    return None


def last_day_answering(procedure, start, move):
    """The last day, today being 0, on which some rule answers the move if only days come before it, or None."""
    last_day = None
    configuration = start
    for day in range(DAYS_AHEAD + 1):
        if first_answering(procedure, configuration, move) is not None:
            last_day = day
        configuration = step_of(procedure, configuration, DAY_ENDS).configuration
    return last_day


def answer_days_found(days):
    return [0] if days is None else [1, days]


def answer_waiting(records, number):
    check_case(number)
    case = case_at(records, number)
    return answer_days_found(days_until_final(procedure_at(records, 0), case.configuration))


def answer_until(records, number, paper):
    check_case(number)
    check_range(paper, 0, MOST_PAPERS - 1)
    case = case_at(records, number)
    procedure = procedure_at(records, 0)
    check_part(paper, procedure.papers)
    return answer_days_found(last_day_answering(procedure, case.configuration, paper + 1))


def answer_toward(records, number, state):
    check_case(number)
    check_range(state, 0, MOST_STATES - 1)
    case = case_at(records, number)
    procedure = procedure_at(records, 0)
    check_part(state, procedure.states)
    return way_to_state(ways_from(procedure, case.configuration), state)

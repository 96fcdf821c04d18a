"""The calls about cases: open, paper, days, state and log."""

from officeways.procedure import AGE, DAY_ENDS, FLAGS, MOST_PAPERS, STATE, first_configuration, is_final, step_of
from officeways.records import CASES, Case, case_at, check_case, procedure_at
from officeways.refusals import LogFull, check_part, check_range

MOST_TOLD = 50
MOST_DAYS_AT_ONCE = 50


def move_case(procedure, case, move):
    """Let a move come to the case, and give back the Step that it made."""
    step = step_of(procedure, case.configuration, move)
    case.configuration = step.configuration
    if step.event > 0:
        case.told.append(step.event)
    return step


def answer_open(records, number):
    check_case(number)
    procedure = procedure_at(records, 0)
    records.cases[number] = Case(first_configuration(procedure), [])
    return [0]


def answer_paper(records, number, paper):
    check_case(number)
    check_range(paper, 0, MOST_PAPERS - 1)
    case = case_at(records, number)
    procedure = procedure_at(records, 0)
    check_part(paper, procedure.papers)
    if len(case.told) >= MOST_TOLD:
        raise LogFull()
    step = move_case(procedure, case, paper + 1)
    return [step.event, 0 if step.rule_done is None else step.rule_done + 1]


def copied_cases(cases):
    copies = []
    for case in cases:
        copies.append(None if case is None else Case(case.configuration, list(case.told)))
    return copies


def end_day(procedure, cases):
    """End one day for all open cases; gives back case and event of each event told, in one row."""
    told = []
    for number in range(CASES):
        if cases[number] is not None:
            step = move_case(procedure, cases[number], DAY_ENDS)
            if step.event > 0:
                told.extend([number, step.event])
    return told


def check_logs(cases):
    for case in cases:
        if case is not None and len(case.told) > MOST_TOLD:
            raise LogFull()


def answer_days(records, days):
    check_range(days, 1, MOST_DAYS_AT_ONCE)
    procedure = procedure_at(records, 0)
    # The days end for copies first: a refusal must leave all cases as they were.
    cases = copied_cases(records.cases)
    told = []
    for day in range(days):
        told.extend(end_day(procedure, cases))
    check_logs(cases)
    records.cases = cases
    return [len(told) // 2] + told


def answer_state(records, number):
    check_case(number)
    configuration = case_at(records, number).configuration
    final = 1 if is_final(procedure_at(records, 0), configuration) else 0
    return [configuration[STATE], configuration[AGE], final] + list(configuration[FLAGS])


def answer_log(records, number):
    check_case(number)
    told = case_at(records, number).told
    return [len(told)] + told

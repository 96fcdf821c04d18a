"""Where the calls on one object are handed in, one behind another in one list, and answered."""

from officeways.casework import answer_days, answer_log, answer_open, answer_paper, answer_state
from officeways.inquiry import answer_clash, answer_classes, answer_idle, answer_reach, answer_same, answer_stuck
from officeways.library import answer_drop, answer_shown, answer_sizes, answer_text
from officeways.outlook import answer_toward, answer_until, answer_waiting
from officeways.records import Records
from officeways.refusals import LogFull, NoSuchPart, NothingThere, NotRight, OutOfRange, TooMany

TEXT = 0
SHOWN = 1
SIZES = 2
OPEN = 3
PAPER = 4
DAYS = 5
STATE_NOW = 6
LOG = 7
REACH = 8
STUCK = 9
CLASH = 10
IDLE = 11
SAME = 12
CLASSES = 13
WAITING = 14
UNTIL = 15
TOWARD = 16
DROP = 17

# How many whole numbers each call has behind its own number, ahead of a row.
NUMBERS_OF_CALLS = (1, 1, 1, 1, 2, 1, 1, 1, 2, 1, 1, 1, 0, 1, 1, 2, 2, 2)


class Call:
    """One call as handed in: its number, its whole numbers, its row, and where the next call begins."""

    def __init__(self, number, numbers, row, end):
        self.number = number
        self.numbers = numbers
        self.row = row
        self.end = end


def call_at(calls, at):
    number = calls[at]
    end = at + 1 + NUMBERS_OF_CALLS[number]
    numbers = calls[at + 1:end]
    if number != TEXT:
        return Call(number, numbers, [], end)
    begin = end + 1
    row_end = begin + calls[end]
    return Call(number, numbers, calls[begin:row_end], row_end)


def answer_about_text(records, call):
    place = call.numbers[0]
    if call.number == TEXT:
        return answer_text(records, place, call.row)
    if call.number == SHOWN:
        return answer_shown(records, place)
    if call.number == SIZES:
        return answer_sizes(records, place)
    return answer_drop(records, place, call.numbers[1])


def answer_about_case(records, call):
    first = call.numbers[0]
    if call.number == OPEN:
        return answer_open(records, first)
    if call.number == PAPER:
        return answer_paper(records, first, call.numbers[1])
    if call.number == DAYS:
        return answer_days(records, first)
    if call.number == STATE_NOW:
        return answer_state(records, first)
    return answer_log(records, first)


def answer_asking_text(records, call):
    if call.number == SAME:
        return answer_same(records)
    place = call.numbers[0]
    if call.number == REACH:
        return answer_reach(records, place, call.numbers[1])
    if call.number == STUCK:
        return answer_stuck(records, place)
    if call.number == CLASH:
        return answer_clash(records, place)
    if call.number == IDLE:
        return answer_idle(records, place)
    return answer_classes(records, place)


def answer_asking_case(records, call):
    case = call.numbers[0]
    if call.number == WAITING:
        return answer_waiting(records, case)
    if call.number == UNTIL:
        return answer_until(records, case, call.numbers[1])
    return answer_toward(records, case, call.numbers[1])


def answer_unrefused(records, call):
    if call.number in (TEXT, SHOWN, SIZES, DROP):
        return answer_about_text(records, call)
    if call.number in (OPEN, PAPER, DAYS, STATE_NOW, LOG):
        return answer_about_case(records, call)
    if call.number in (REACH, STUCK, CLASH, IDLE, SAME, CLASSES):
        return answer_asking_text(records, call)
    return answer_asking_case(records, call)


def answer(records, call):
    """What one call answers; a refusal is its number alone."""
    try:
        return answer_unrefused(records, call)
    except OutOfRange:
        return [-1]
    except LogFull:
        return [-3]
    except NoSuchPart:
        return [-5]
    except NotRight:
        return [-6]
    except TooMany:
        return [-7]
    except NothingThere:
        return [-8]


def answers(calls):
    """For each call in the list, in order: how many numbers it answers, and these."""
    records = Records()
    given = []
    at = 0
    while at < len(calls):
        call = call_at(calls, at)
        answered = answer(records, call)
        given.append(len(answered))
        given.extend(answered)
        at = call.end
    return given

"""Calls written by name, and answers taken apart call by call."""

import copy

from officeways.desk import answers

LEAST = -9223372036854775808
MOST = 9223372036854775807

EXAMPLE = (
    "state in;state exam;final gone;final given;paper fee;paper reply;flag paid;"
    "from in on fee within 3 to exam then +paid tell 1;"
    "from in after 4 to gone tell 9;"
    "from exam on reply if +paid to given tell 2;"
)

# Every day tells: the quickest way to a full log.
DAILY = "state a;paper p;paper q;from a after 1 to a tell 7;from a on p to a tell 3;"


# Five states, four settings of the flags, ages 0 to 4: just 100 configurations.
HUNDRED = (
    "state a;state b;state c;state d;state e;final f;paper p;paper q;paper r;paper s;flag x;flag y;"
    "from a on p within 3 to b;from a on p to b;from b on p to c;from c on p to d;from d on p to e;"
    "from a on q to a then +x;from a on r to a then +y;"
)


def codes(text):
    return [ord(sign) for sign in text]


def text(k, written):
    row = codes(written) if isinstance(written, str) else list(written)
    return [0, k, len(row)] + row


def shown(k):
    return [1, k]


def sizes(k):
    return [2, k]


def open_case(c):
    return [3, c]


def paper(c, i):
    return [4, c, i]


def days(n):
    return [5, n]


def state(c):
    return [6, c]


def log(c):
    return [7, c]


def reach(k, s):
    return [8, k, s]


def stuck(k):
    return [9, k]


def clash(k):
    return [10, k]


def idle(k):
    return [11, k]


def same():
    return [12]


def classes(k):
    return [13, k]


def waiting(c):
    return [14, c]


def until(c, i):
    return [15, c, i]


def toward(c, s):
    return [16, c, s]


def drop(k, i):
    return [17, k, i]


def taken_apart(given):
    rows = []
    at = 0
    while at < len(given):
        end = at + 1 + given[at]
        rows.append(given[at + 1:end])
        at = end
    return rows


def ask(*calls):
    """The answers of these calls on one new object, a list for each call."""
    handed = [number for call in calls for number in call]
    before = copy.copy(handed)
    given = answers(handed)
    if handed != before:
        raise AssertionError("what was handed in was changed")
    rows = taken_apart(given)
    if len(rows) != len(calls):
        raise AssertionError(f"{len(calls)} calls, {len(rows)} answers: {given}")
    return rows


def last(*calls):
    """What the last of these calls answers."""
    return ask(*calls)[-1]

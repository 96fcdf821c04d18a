"""Calls 3 open, 4 paper, 5 days, 6 state and 7 log."""

import unittest

from tests.helper import (
    DAILY, EXAMPLE, LEAST, MOST, ask, days, last, log, open_case, paper, shown, state, text,
)

OUT_OF_CASES = (-1, 3, 4, LEAST, MOST)

# p tells on every coming, q never does anything.
BY_PAPER = "state a;paper p;paper q;from a on p to a tell 4;"


class WithTexts(unittest.TestCase):

    def after(self, written, *calls):
        """The answers of the calls behind this text in place 0 and an opened case 0."""
        return ask(text(0, written), open_case(0), *calls)[2:]


class Example(WithTexts):

    def test_as_told(self):
        self.assertEqual(
            self.after(EXAMPLE, days(2), paper(0, 0), state(0), log(0)),
            [[0], [1, 1], [1, 0, 0, 1], [1, 1]],
        )

    def test_on_time(self):
        self.assertEqual(
            self.after(
                EXAMPLE, days(3), state(0), paper(0, 0), state(0), days(9), state(0), paper(0, 1), state(0), log(0),
            ),
            [[0], [0, 3, 0, 0], [1, 1], [1, 0, 0, 1], [0], [1, 5, 0, 1], [2, 3], [3, 0, 1, 1], [2, 1, 2]],
        )

    def test_too_late(self):
        self.assertEqual(
            self.after(EXAMPLE, days(4), state(0), paper(0, 0), paper(0, 1), days(50), state(0), log(0)),
            [[1, 0, 9], [2, 0, 1, 0], [0, 0], [0, 0], [0], [2, 0, 1, 0], [1, 9]],
        )


class Open(WithTexts):

    def test_first_configuration(self):
        written = "state a;paper p;flag x;flag y;"
        self.assertEqual(self.after(written, state(0), log(0)), [[0, 0, 0, 0, 0], [0]])

    def test_each_case(self):
        rows = ask(
            text(0, DAILY), open_case(1), state(0), state(1), state(2), open_case(2), open_case(0), state(0), state(2),
        )
        self.assertEqual(rows[1:], [[0], [-8], [0, 0, 0], [-8], [0], [0], [0, 0, 0], [0, 0, 0]])

    def test_again(self):
        rows = self.after(
            EXAMPLE, paper(0, 0), open_case(1), paper(1, 0), open_case(0), state(0), log(0), state(1), log(1),
        )
        self.assertEqual(rows[3:], [[0], [0, 0, 0, 0], [0], [1, 0, 0, 1], [1, 1]])

    def test_again_after_a_full_log(self):
        rows = self.after(DAILY, days(50), paper(0, 0), open_case(0), paper(0, 0), log(0))
        self.assertEqual(rows[1:], [[-3], [0], [3, 2], [1, 3]])

    def test_refusals(self):
        for c in OUT_OF_CASES:
            self.assertEqual(ask(open_case(c), text(0, EXAMPLE), open_case(c)), [[-1], [3, 12], [-1]])
        for c in range(3):
            self.assertEqual(ask(open_case(c), text(1, EXAMPLE), open_case(c)), [[-8], [3, 12], [-8]])

    def test_a_refused_one_is_not_open_later(self):
        self.assertEqual(ask(open_case(0), text(0, DAILY), state(0), days(1))[2:], [[-8], [0]])


class Paper(WithTexts):

    def test_event_and_rule(self):
        written = "state a;state b;paper p;paper q;from a on q to b;from a on p to b tell 9;from b on p to a tell 1;"
        rows = self.after(written, paper(0, 0), paper(0, 0), paper(0, 1), paper(0, 1), log(0), state(0))
        self.assertEqual(rows, [[9, 2], [1, 3], [0, 1], [0, 0], [2, 9, 1], [1, 0, 0]])

    def test_the_first_of_several_rules(self):
        written = "state a;state b;state c;paper p;from b on p to a;from a on p to b tell 2;from a on p to c tell 3;"
        self.assertEqual(self.after(written, paper(0, 0), state(0)), [[2, 2], [1, 0, 0]])

    def test_rule_16(self):
        written = "state a;state b;paper p;" + "from b on p to a;" * 15 + "from a on p to b tell 5;"
        self.assertEqual(self.after(written, paper(0, 0), paper(0, 0)), [[5, 16], [0, 1]])

    def test_within(self):
        written = "state a;state b;paper p;from a on p within 2 to b tell 1;from a on p to b tell 2;"
        for passed, answer in ((1, [1, 1]), (2, [1, 1]), (3, [2, 2]), (4, [2, 2]), (50, [2, 2])):
            self.assertEqual(self.after(written, days(passed), paper(0, 0))[1], answer)
        self.assertEqual(self.after(written, paper(0, 0)), [[1, 1]])

    def test_within_the_most_days(self):
        written = "state a;state b;paper p;from a on p within 12 to b tell 1;"
        self.assertEqual(self.after(written, days(12), paper(0, 0))[1], [1, 1])
        self.assertEqual(self.after(written, days(13), paper(0, 0), state(0))[1:], [[0, 0], [0, 13, 0]])
        self.assertEqual(self.after(written, days(50), paper(0, 0), state(0))[1:], [[0, 0], [0, 13, 0]])

    def test_nothing_done_keeps_the_age(self):
        self.assertEqual(self.after(EXAMPLE, days(2), paper(0, 1), state(0)), [[0], [0, 0], [0, 2, 0, 0]])

    def test_going_to_the_same_state_begins_its_age_anew(self):
        written = "state a;paper p;from a on p to a;from a after 9 to a;"
        self.assertEqual(self.after(written, days(3), paper(0, 0), state(0))[1:], [[0, 1], [0, 0, 0]])

    def test_conditions(self):
        written = (
            "state a;paper p;paper q;paper r;paper s;flag x;flag y;from a on p if +x-y to a tell 1;"
            "from a on p if -x to a tell 2;from a on p if +y to a tell 3;"
            "from a on q to a then +x;from a on r to a then +y;from a on s to a then -x;"
        )
        rows = self.after(
            written, paper(0, 0), paper(0, 1), state(0), paper(0, 0), paper(0, 2), state(0), paper(0, 0),
            paper(0, 3), state(0), paper(0, 0), log(0),
        )
        self.assertEqual(rows, [
            [2, 2], [0, 4], [0, 0, 0, 1, 0], [1, 1], [0, 5], [0, 0, 0, 1, 1], [3, 3],
            [0, 6], [0, 0, 0, 0, 1], [2, 2], [4, 2, 1, 3, 2],
        ])

    def test_changes_of_both_flags(self):
        written = "state a;paper p;paper q;flag x;flag y;from a on p to a then +x-y;from a on q to a then -x+y;"
        rows = self.after(written, paper(0, 0), state(0), paper(0, 0), state(0), paper(0, 1), state(0))
        self.assertEqual([rows[1], rows[3], rows[5]], [[0, 0, 0, 1, 0], [0, 0, 0, 1, 0], [0, 0, 0, 0, 1]])

    def test_a_rule_by_time_answers_no_paper(self):
        written = "state a;final z;paper p;from a after 1 to z;"
        self.assertEqual(self.after(written, paper(0, 0), state(0)), [[0, 0], [0, 0, 0]])

    def test_only_its_own_case(self):
        rows = self.after(BY_PAPER, open_case(1), paper(1, 0), log(0), log(1))
        self.assertEqual(rows[1:], [[4, 1], [0], [1, 4]])

    def test_fifty_events(self):
        rows = self.after(BY_PAPER, *[paper(0, 0)] * 51, log(0))
        self.assertEqual(rows[:50], [[4, 1]] * 50)
        self.assertEqual(rows[50:], [[-3], [50] + [4] * 50])

    def test_fifty_events_whatever_the_paper_would_do(self):
        rows = self.after(BY_PAPER, *[paper(0, 0)] * 49, paper(0, 1), paper(0, 0), paper(0, 1), state(0))
        self.assertEqual(rows[49:], [[0, 0], [4, 1], [-3], [0, 0, 0]])

    def test_fifty_events_in_a_final_state(self):
        written = "state a;final z;paper p;paper q;from a on p to a tell 4;from a on q to z tell 5;"
        rows = self.after(written, *[paper(0, 0)] * 49, paper(0, 1), paper(0, 0), state(0))
        self.assertEqual(rows[49:], [[5, 2], [-3], [1, 0, 1]])

    def test_fifty_events_of_another_case(self):
        rows = self.after(BY_PAPER, *[paper(0, 0)] * 50, open_case(1), paper(1, 0), paper(0, 0))
        self.assertEqual(rows[51:], [[4, 1], [-3]])

    def test_rules_done_without_events_do_not_count(self):
        written = "state a;paper p;from a on p to a;"
        self.assertEqual(self.after(written, *[paper(0, 0)] * 60, log(0)), [[0, 1]] * 60 + [[0]])

    def test_refusals_in_their_order(self):
        for c in OUT_OF_CASES:
            self.assertEqual(ask(paper(c, 0), text(0, DAILY), paper(c, 0), paper(c, 9)), [[-1], [2, 1], [-1], [-1]])
        for i in (-1, 4, 5, LEAST, MOST):
            self.assertEqual(last(paper(0, i)), [-1])
            self.assertEqual(self.after(DAILY, days(50), paper(0, i))[1], [-1])
        self.assertEqual(ask(paper(0, 0), paper(2, 3), text(1, DAILY), paper(0, 0)), [[-8], [-8], [2, 1], [-8]])
        self.assertEqual(self.after(DAILY, paper(1, 0), paper(1, 3), paper(2, 2)), [[-8], [-8], [-8]])
        self.assertEqual(self.after(DAILY, paper(0, 2), paper(0, 3), paper(0, 1)), [[-5], [-5], [0, 0]])
        self.assertEqual(self.after(DAILY, days(50), paper(0, 2), paper(0, 1))[1:], [[-5], [-3]])
        self.assertEqual(self.after("state a;", paper(0, 0)), [[-5]])

    def test_four_papers(self):
        written = "state a;paper p;paper q;paper r;paper s;from a on s to a tell 8;"
        self.assertEqual(self.after(written, paper(0, 3), paper(0, 2)), [[8, 1], [0, 0]])

    def test_place_1_has_no_say(self):
        rows = ask(text(0, BY_PAPER), text(1, "state a;"), open_case(0), paper(0, 0), paper(0, 2))
        self.assertEqual(rows[3:], [[4, 1], [-5]])

    def test_a_refusal_changes_nothing(self):
        for refused in (paper(0, 2), paper(0, 4), paper(3, 0), paper(1, 0)):
            rows = self.after(EXAMPLE, paper(0, 0), days(2), refused, state(0), log(0), shown(1), state(1))
            self.assertEqual(rows[3:], [[1, 2, 0, 1], [1, 1], [-8], [-8]])


class Days(WithTexts):

    def test_no_case_is_open(self):
        self.assertEqual(last(text(0, DAILY), days(50)), [0])

    def test_one_day_and_fifty(self):
        self.assertEqual(self.after(DAILY, days(1)), [[1, 0, 7]])
        self.assertEqual(self.after(DAILY, days(50)), [[50] + [0, 7] * 50])

    def test_day_by_day_in_the_order_of_the_cases(self):
        written = (
            "state a;state b;final z;paper p;from a after 2 to b tell 1;from b after 1 to b tell 2;"
            "from a on p to b tell 3;"
        )
        rows = ask(text(0, written), open_case(2), open_case(0), paper(2, 0), days(3), log(0), log(1), log(2))
        self.assertEqual(rows[4:], [[5, 2, 2, 0, 1, 2, 2, 0, 2, 2, 2], [2, 1, 2], [-8], [4, 3, 2, 2, 2]])

    def test_all_three(self):
        rows = ask(text(0, DAILY), open_case(2), open_case(1), open_case(0), days(2))
        self.assertEqual(rows[4], [6, 0, 7, 1, 7, 2, 7, 0, 7, 1, 7, 2, 7])

    def test_several_days_are_as_single_days(self):
        at_once = self.after(EXAMPLE, days(5), state(0), log(0))[1:]
        single = self.after(EXAMPLE, *[days(1)] * 5, state(0), log(0))[5:]
        self.assertEqual(at_once, single)

    def test_after(self):
        written = "state a;state b;from a after 3 to b tell 1;"
        self.assertEqual(
            self.after(written, days(2), state(0), days(1), state(0)),
            [[0], [0, 2, 0], [1, 0, 1], [1, 0, 0]],
        )

    def test_after_the_most_days(self):
        written = "state a;final z;from a after 12 to z tell 6;"
        self.assertEqual(
            self.after(written, days(11), state(0), days(1), state(0)),
            [[0], [0, 11, 0], [1, 0, 6], [1, 0, 1]],
        )

    def test_after_is_that_day_alone(self):
        written = "state a;final z;paper p;flag x;from a after 2 if +x to z;from a on p to a then +x;"
        self.assertEqual(self.after(written, days(2), state(0)), [[0], [0, 2, 0, 0]])
        self.assertEqual(self.after(written, days(50), state(0)), [[0], [0, 3, 0, 0]])
        self.assertEqual(self.after(written, days(1), paper(0, 0), days(1), state(0), days(1), state(0))[3:],
                         [[0, 1, 0, 1], [0], [1, 0, 1, 1]])

    def test_the_first_of_several_rules(self):
        written = (
            "state a;final y;final z;from a after 3 to y tell 1;from a after 2 to z tell 2;"
            "from a after 2 to y tell 3;"
        )
        self.assertEqual(self.after(written, days(4), state(0)), [[1, 0, 2], [2, 0, 1]])

    def test_changes_by_time(self):
        written = "state a;flag x;flag y;from a after 1 if -x to a then +x;from a after 1 if +x-y to a then -x+y;"
        rows = self.after(written, *[call for day in range(4) for call in (days(1), state(0))])
        self.assertEqual(rows[1::2], [[0, 0, 0, 1, 0], [0, 0, 0, 0, 1], [0, 0, 0, 1, 1], [0, 1, 0, 1, 1]])

    def test_age_at_the_cap(self):
        self.assertEqual(self.after("state a;", days(1), state(0), days(1), state(0)), [[0], [0, 1, 0], [0], [0, 1, 0]])
        written = "state a;state b;from b after 12 to a;"
        self.assertEqual(self.after(written, days(12), state(0), days(1), state(0), days(50), state(0))[1::2],
                         [[0, 12, 0], [0, 13, 0], [0, 13, 0]])

    def test_fifty_events(self):
        rows = self.after(DAILY, days(49), days(2), log(0), days(1), days(1), log(0))
        self.assertEqual(rows[1:], [[-3], [49] + [7] * 49, [1, 0, 7], [-3], [50] + [7] * 50])

    def test_papers_count_too(self):
        self.assertEqual(self.after(DAILY, paper(0, 0), days(50), days(49), days(1))[1:],
                         [[-3], [49] + [0, 7] * 49, [-3]])

    def test_a_full_log_and_no_more_events(self):
        written = "state a;final z;paper p;paper q;from a on p to a tell 4;from a on q to z tell 5;"
        rows = self.after(written, *[paper(0, 0)] * 50, days(50), state(0))
        self.assertEqual(rows[50:], [[0], [0, 1, 0]])

    def test_one_full_case_stops_all_of_them(self):
        for full in range(3):
            others = [c for c in range(3) if c != full]
            rows = ask(
                text(0, DAILY), open_case(full), days(48), open_case(others[0]), open_case(others[1]),
                days(3), log(0), log(1), log(2), days(2),
            )
            logs = [[0], [0], [0]]
            logs[full] = [48] + [7] * 48
            self.assertEqual(rows[5:], [[-3]] + logs + [[6, 0, 7, 1, 7, 2, 7, 0, 7, 1, 7, 2, 7]])

    def test_a_refusal_leaves_ages_and_flags(self):
        written = (
            "state a;state b;paper p;flag x;from a on p to b then +x;from a after 3 to a then +x;"
            "from b after 1 to b tell 1;"
        )
        rows = ask(
            text(0, written), open_case(0), paper(0, 0), days(50), open_case(1), days(1), state(0), state(1), log(1),
        )
        self.assertEqual(rows[5:], [[-3], [1, 0, 0, 1], [0, 0, 0, 0], [0]])

    def test_refusals(self):
        for n in (0, -1, 51, 52, LEAST, MOST):
            rows = ask(days(n), text(0, DAILY), open_case(0), days(n), log(0))
            self.assertEqual(rows, [[-1], [2, 1], [0], [-1], [0]])
            self.assertEqual(self.after(DAILY, days(50), days(n))[1], [-1])
        self.assertEqual(ask(days(1), text(1, DAILY), days(50)), [[-8], [2, 1], [-8]])


class StateAndLog(WithTexts):

    def test_flags_in_their_order(self):
        head = "state a;paper p;"
        self.assertEqual(self.after(head, state(0)), [[0, 0, 0]])
        written = head + "flag x;from a on p to a then +x;"
        self.assertEqual(self.after(written, paper(0, 0), state(0))[1], [0, 0, 0, 1])
        written = head + "flag x;flag y;from a on p to a then +y;"
        self.assertEqual(self.after(written, paper(0, 0), state(0))[1], [0, 0, 0, 0, 1])

    def test_final_states_among_others(self):
        written = "state a;final y;state b;final z;paper p;paper q;from a on p to b;from b on p to z;from a on q to y;"
        rows = self.after(written, paper(0, 0), state(0), paper(0, 0), state(0))
        self.assertEqual(rows[1::2], [[2, 0, 0], [3, 0, 1]])
        self.assertEqual(self.after(written, paper(0, 1), state(0))[1], [1, 0, 1])

    def test_a_final_state_stays_as_it_is(self):
        written = "state a;final z;paper p;flag x;from a on p to z then +x tell 3;"
        rows = self.after(written, paper(0, 0), days(5), paper(0, 0), state(0), log(0))
        self.assertEqual(rows, [[3, 1], [0], [0, 0], [1, 0, 1, 1], [1, 3]])

    def test_the_log_keeps_the_order(self):
        self.assertEqual(self.after(DAILY, days(1), paper(0, 0), paper(0, 1), days(2), log(0))[4], [4, 7, 3, 7, 7])

    def test_asking_changes_nothing(self):
        self.assertEqual(self.after(DAILY, days(1), log(0), log(0), state(0), state(0), log(0))[1:],
                         [[1, 7], [1, 7], [0, 0, 0], [0, 0, 0], [1, 7]])

    def test_refusals(self):
        for call in (state, log):
            for c in OUT_OF_CASES:
                self.assertEqual(last(call(c)), [-1])
                self.assertEqual(self.after(DAILY, call(c)), [[-1]])
            self.assertEqual(ask(call(0), call(2), text(1, DAILY), call(0), text(0, DAILY), call(0)),
                             [[-8], [-8], [2, 1], [-8], [2, 1], [-8]])
            self.assertEqual(self.after(DAILY, call(1), call(2)), [[-8], [-8]])


if __name__ == "__main__":
    unittest.main()

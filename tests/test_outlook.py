"""Calls 14 waiting, 15 until and 16 toward."""

import itertools
import unittest

from tests.helper import (
    DAILY, EXAMPLE, LEAST, MOST, ask, codes, days, last, log, open_case, paper, reach, shown, state, text, toward,
    until, waiting,
)

OUT_OF_CASES = (-1, 3, 4, LEAST, MOST)
LONG = (
    "state a;state b;state c;state d;state e;final f;from a after 12 to b;from b after 12 to c;"
    "from c after 12 to d;from d after 12 to e;from e after 12 to f;"
)


def circle(first, second, third, fourth):
    """Four states that follow one another for ever, after so many days each; the second one answers a paper."""
    return (
        "state a;state b;state c;state d;paper p;"
        f"from a after {first} to b;from b after {second} to c;from c after {third} to d;from d after {fourth} to a;"
        "from b on p within 1 to b;"
    )


class AboutCases:
    """What the calls about a case have in common."""

    def after(self, written, *calls):
        """The answers of the calls behind this text in place 0 and an opened case 0."""
        return ask(text(0, written), open_case(0), *calls)[2:]

    def answer(self, written, *calls):
        return self.after(written, *calls)[-1]

    def test_out_of_range(self):
        for c in OUT_OF_CASES:
            self.assertEqual(last(self.call(c)), [-1])
            self.assertEqual(self.answer(EXAMPLE, self.call(c)), [-1])

    def test_not_open(self):
        self.assertEqual(ask(self.call(0), self.call(2)), [[-8], [-8]])
        self.assertEqual(last(text(1, EXAMPLE), self.call(0)), [-8])
        self.assertEqual(last(text(0, EXAMPLE), self.call(0)), [-8])
        self.assertEqual(self.after(EXAMPLE, self.call(1), self.call(2)), [[-8], [-8]])
        self.assertEqual(self.answer(EXAMPLE, text(0, EXAMPLE), self.call(0)), [-8])

    def test_place_1_has_no_say(self):
        alone = self.answer(EXAMPLE, days(1), self.call(0))
        self.assertEqual(self.answer(EXAMPLE, text(1, "state a;"), days(1), self.call(0)), alone)

    def test_each_case_for_itself(self):
        rows = self.after(EXAMPLE, open_case(2), days(1), paper(2, 0), self.call(0), self.call(2))
        self.assertEqual(rows[3], self.answer(EXAMPLE, days(1), self.call(0)))
        self.assertEqual(rows[4], self.answer(EXAMPLE, paper(0, 0), self.call(0)))
        self.assertNotEqual(rows[3], rows[4])

    def test_asking_changes_nothing(self):
        rows = self.after(EXAMPLE, days(3), self.call(0), self.call(0), state(0), log(0), shown(0), days(1), log(0),
                          state(1))
        self.assertEqual(rows[1], rows[2])
        self.assertEqual(rows[3:], [[0, 3, 0, 0], [0], codes(EXAMPLE), [1, 0, 9], [1, 9], [-8]])

    def test_a_full_log_is_no_hindrance(self):
        # Fifty events have been told, and the days and papers asked for would tell more.
        written = (
            "state a;state b;final z;paper p;paper q;from a on p to a tell 4;from a after 3 to z tell 5;"
            "from a on q to b;from b on q to z tell 6;"
        )
        alone = self.answer(written, self.call(0))
        rows = self.after(written, *[paper(0, 0)] * 50, paper(0, 0), self.call(0), log(0))
        self.assertEqual(rows[50:], [[-3], alone, [50] + [4] * 50])


class Waiting(AboutCases, unittest.TestCase):
    call = staticmethod(waiting)

    def test_example(self):
        self.assertEqual(self.answer(EXAMPLE, waiting(0)), [1, 4])
        self.assertEqual(self.answer(EXAMPLE, days(3), waiting(0)), [1, 1])
        self.assertEqual(self.answer(EXAMPLE, days(4), waiting(0)), [1, 0])
        self.assertEqual(self.answer(EXAMPLE, paper(0, 0), waiting(0)), [0])
        self.assertEqual(self.answer(EXAMPLE, paper(0, 0), paper(0, 1), waiting(0)), [1, 0])

    def test_never(self):
        self.assertEqual(self.answer("state a;", waiting(0)), [0])
        self.assertEqual(self.answer(DAILY, waiting(0)), [0])
        self.assertEqual(self.answer(circle(1, 2, 3, 4), waiting(0)), [0])
        self.assertEqual(self.answer("state a;final z;paper p;from a on p to z;", waiting(0)), [0])

    def test_through_several_states(self):
        self.assertEqual(self.answer(LONG, waiting(0)), [1, 60])
        self.assertEqual(self.answer(LONG, days(50), waiting(0)), [1, 10])
        self.assertEqual(self.answer(LONG, days(50), days(9), waiting(0)), [1, 1])

    def test_the_day_has_passed(self):
        written = "state a;final z;paper p;flag x;from a after 2 if +x to z;from a on p within 1 to a then +x;"
        self.assertEqual(self.answer(written, waiting(0)), [0])
        self.assertEqual(self.answer(written, paper(0, 0), waiting(0)), [1, 2])

    def test_round_and_round_with_other_flags(self):
        written = (
            "state a;state b;final z;flag x;flag y;from a after 3 if +x+y to z;from a after 3 if +x to b then +y;"
            "from a after 3 to b then +x;from b after 12 to a;"
        )
        self.assertEqual(self.answer(written, waiting(0)), [1, 33])

    def test_the_answer_is_what_days_do(self):
        for passed in range(4):
            rows = self.after(EXAMPLE, *[days(1)] * passed, waiting(0), *[days(1)] * (4 - passed), state(0))
            self.assertEqual(rows[passed], [1, 4 - passed])
            self.assertEqual(rows[-1][2], 1)


class WithASecondNumber(AboutCases):

    def call(self, c):
        return self.called(c, 0)

    def test_second_number_out_of_range(self):
        for number in (-1, self.most + 1, LEAST, MOST):
            self.assertEqual(last(self.called(0, number)), [-1])
            self.assertEqual(self.answer(EXAMPLE, self.called(0, number)), [-1])
            self.assertEqual(self.answer(EXAMPLE, self.called(1, number)), [-1])

    def test_not_open_before_no_such_part(self):
        self.assertEqual(last(self.called(0, self.most)), [-8])
        self.assertEqual(self.after(EXAMPLE, self.called(1, self.most), self.called(1, self.count)), [[-8], [-8]])

    def test_no_such_part(self):
        for number in range(self.count, self.most + 1):
            self.assertEqual(self.answer(EXAMPLE, self.called(0, number)), [-5])
        self.assertEqual(self.answer(EXAMPLE, days(4), self.called(0, self.count - 1)), [0])


class Until(WithASecondNumber, unittest.TestCase):
    called = staticmethod(until)
    most = 3
    count = 2

    def test_example(self):
        self.assertEqual(self.answer(EXAMPLE, until(0, 0)), [1, 3])
        self.assertEqual(self.answer(EXAMPLE, until(0, 1)), [0])
        self.assertEqual(self.answer(EXAMPLE, days(2), until(0, 0)), [1, 1])
        self.assertEqual(self.answer(EXAMPLE, days(3), until(0, 0)), [1, 0])
        self.assertEqual(self.answer(EXAMPLE, days(4), until(0, 0)), [0])
        self.assertEqual(self.answer(EXAMPLE, paper(0, 0), until(0, 1)), [1, 100])
        self.assertEqual(self.answer(EXAMPLE, paper(0, 0), until(0, 0)), [0])

    def test_within(self):
        written = "state a;final z;paper p;from a on p within {} to z;"
        for number in range(1, 13):
            self.assertEqual(self.answer(written.format(number), until(0, 0)), [1, number])
            self.assertEqual(self.answer(written.format(number), days(number), until(0, 0)), [1, 0])
            self.assertEqual(self.answer(written.format(number), days(number + 1), until(0, 0)), [0])

    def test_some_rule_is_enough(self):
        written = "state a;final z;paper p;from a on p within 5 to z;from a on p within 2 to z;"
        self.assertEqual(self.answer(written, until(0, 0)), [1, 5])
        written = "state a;final z;paper p;from a on p within 2 to z;from a on p within 5 to z;"
        self.assertEqual(self.answer(written, until(0, 0)), [1, 5])

    def test_a_rule_that_changes_nothing_answers_too(self):
        self.assertEqual(self.answer("state a;paper p;from a on p to a;", until(0, 0)), [1, 100])

    def test_later_but_not_today(self):
        written = "state a;state b;final z;paper p;from a after 5 to b;from b after 3 to z;from b on p to z;"
        self.assertEqual(self.answer(written, until(0, 0)), [1, 7])

    def test_day_100_and_day_101(self):
        # The second state begins on the days 12, 56, 100; and then on the days 11, 56, 101.
        self.assertEqual(self.answer(circle(12, 12, 12, 8), until(0, 0)), [1, 100])
        self.assertEqual(self.answer(circle(11, 12, 12, 10), until(0, 0)), [1, 57])
        self.assertEqual(self.answer(circle(11, 12, 12, 10), days(1), until(0, 0)), [1, 100])

    def test_round_and_round(self):
        written = "state a;state b;paper p;paper q;from a after 3 to b;from b after 4 to a;from b on q to a;"
        self.assertEqual(self.answer(written, until(0, 1)), [1, 97])
        self.assertEqual(self.answer(written, until(0, 0)), [0])

    def test_conditions(self):
        written = (
            "state a;paper p;paper q;flag x;from a on p if -x to a;from a after 9 to a then +x;"
            "from a on q if +x to a;"
        )
        self.assertEqual(self.after(written, until(0, 0), until(0, 1), days(9), until(0, 0), until(0, 1)),
                         [[1, 8], [1, 100], [0], [0], [1, 100]])

    def test_four_papers(self):
        written = "state a;paper p;paper q;paper r;paper s;from a on s within 6 to a;"
        self.assertEqual(self.after(written, until(0, 3), until(0, 2)), [[1, 6], [0]])

    def test_no_papers(self):
        self.assertEqual(self.answer("state a;", until(0, 0)), [-5])

    def test_the_answer_is_what_papers_do(self):
        for passed in range(6):
            done = self.answer(EXAMPLE, *[days(1)] * passed, paper(0, 0))[1] > 0
            self.assertEqual(done, passed <= 3)


class Toward(WithASecondNumber, unittest.TestCase):
    called = staticmethod(toward)
    most = 5
    count = 4

    def call(self, c):
        return toward(c, 2)

    def test_example(self):
        rows = self.after(EXAMPLE, *[toward(0, s) for s in range(4)])
        self.assertEqual(rows, [[1, 0], [1, 1, 1], [1, 4, 0, 0, 0, 0], [1, 2, 1, 2]])
        rows = self.after(EXAMPLE, days(2), *[toward(0, s) for s in range(4)])
        self.assertEqual(rows[1:], [[1, 0], [1, 1, 1], [1, 2, 0, 0], [1, 2, 1, 2]])
        rows = self.after(EXAMPLE, paper(0, 0), days(50), *[toward(0, s) for s in range(4)])
        self.assertEqual(rows[2:], [[0], [1, 0], [0], [1, 1, 2]])

    def test_a_final_state(self):
        rows = self.after(EXAMPLE, days(4), *[toward(0, s) for s in range(4)])
        self.assertEqual(rows[1:], [[0], [0], [1, 0], [0]])

    def test_a_new_case_is_as_reach(self):
        for written in (EXAMPLE, LONG, circle(3, 5, 2, 9)):
            for s in range(4):
                rows = self.after(written, toward(0, s), reach(0, s))
                self.assertEqual(rows[0], rows[1])

    def test_back_to_the_beginning(self):
        written = circle(1, 2, 3, 4)
        self.assertEqual(self.answer(written, days(1), toward(0, 0)), [1, 9] + [0] * 9)
        self.assertEqual(self.answer(written, days(9), toward(0, 0)), [1, 1, 0])

    def test_too_late(self):
        written = "state a;final z;paper p;from a on p within 2 to z;"
        self.assertEqual(self.after(written, days(2), toward(0, 1), days(1), toward(0, 1))[1::2], [[1, 1, 1], [0]])

    def test_flags_of_the_case(self):
        written = "state a;final z;paper p;paper q;flag x;from a on p if +x to z;from a on q to a then +x;"
        self.assertEqual(self.after(written, toward(0, 1), paper(0, 1), toward(0, 1)),
                         [[1, 2, 2, 1], [0, 2], [1, 1, 1]])

    def test_shortest_then_least(self):
        written = (
            "state a;state b;state c;state d;final z;paper p;paper q;from a after 1 to b;from b on q to c;"
            "from b on p to d;from c on p to z;from d on q to z;from b after 3 to z;"
        )
        self.assertEqual(self.answer(written, days(1), toward(0, 4)), [1, 2, 1, 2])
        self.assertEqual(self.answer(written, days(2), toward(0, 4)), [1, 2, 0, 0])
        self.assertEqual(self.answer(written, days(3), toward(0, 4)), [1, 1, 0])

    def test_six_states(self):
        self.assertEqual(self.answer(LONG, days(50), toward(0, 5)), [1, 10] + [0] * 10)

    def test_against_all_rows_of_moves(self):
        written = (
            "state a;state b;state c;final z;paper p;paper q;flag x;from a on p within 1 if -x to b then +x;"
            "from b after 2 to a;from a on q if +x to c;from c on p to z;from a after 2 if +x to c then -x;"
        )
        for begin in itertools.product(range(3), repeat=2):
            for s in range(4):
                answer = self.answer(written, *[self.moved(move) for move in begin], toward(0, s))
                self.assertEqual(answer, self.first_row(written, begin, s))

    def moved(self, move):
        return days(1) if move == 0 else paper(0, move - 1)

    def first_row(self, written, begin, s):
        """By trying the rows in the order that the document tells, up to six moves."""
        for length in range(7):
            for moves in itertools.product(range(3), repeat=length):
                if self.answer(written, *[self.moved(move) for move in begin + moves], state(0))[0] == s:
                    return [1, length] + list(moves)
        return [0]


if __name__ == "__main__":
    unittest.main()

"""Calls 1 shown, 2 sizes and 8 reach, and how calls and answers stand in their lists."""

import itertools
import unittest

from officeways.desk import answers
from tests.helper import (
    DAILY, EXAMPLE, LEAST, MOST, ask, clash, classes, codes, days, drop, idle, last, log, open_case, paper, reach, same,
    shown, sizes, state, stuck, taken_apart, text, toward, until, waiting,
)

OUT_OF_PLACES = (-1, 2, 3, 255, LEAST, MOST)


class Shown(unittest.TestCase):

    def form(self, written):
        return last(text(0, written), shown(0))

    def test_example(self):
        self.assertEqual(self.form(EXAMPLE), codes(EXAMPLE))

    def test_both_places(self):
        rows = ask(text(0, "state a;"), text(1, "state b;"), shown(0), shown(1))
        self.assertEqual(rows[2:], [codes("state a;"), codes("state b;")])

    def test_states_papers_flags_rules(self):
        rules = "from b on p if +y-x to a;from a after 3 to z;"
        written = "flag y;paper q;state b;paper p;final z;flag x;state a;final w;" + rules
        form = "state b;final z;state a;final w;paper q;paper p;flag y;flag x;" + rules
        self.assertEqual(self.form(written), codes(form))
        self.assertEqual(self.form(form), codes(form))

    def test_every_form_of_a_rule(self):
        head = "state a;final z;paper p;flag x;flag y;"
        starts = ("from a on p", "from a on p within 1", "from a on p within 12", "from a after 1", "from a after 12")
        conditions = ("", " if +x", " if -y", " if +x-y", " if -x+y")
        changes = ("", " then -x", " then +y", " then -x+y")
        events = ("", " tell 1", " tell 9")
        for start, condition, change, event in itertools.product(starts, conditions, changes, events):
            for target in ("a", "z"):
                written = f"{head}{start}{condition} to {target}{change}{event};"
                self.assertEqual(self.form(written), codes(written))

    def test_rules_keep_their_order_and_stand_as_often_as_told(self):
        rule = "from a on p to a tell 2;"
        written = "state a;paper p;" + rule + "from a after 1 to a;" + rule + "from a on p to a;"
        self.assertEqual(self.form(written), codes(written))

    def test_no_text(self):
        self.assertEqual(ask(shown(0), shown(1)), [[-8], [-8]])
        self.assertEqual(ask(text(1, EXAMPLE), shown(0))[1], [-8])
        self.assertEqual(ask(text(0, EXAMPLE), shown(1))[1], [-8])

    def test_out_of_range(self):
        for k in OUT_OF_PLACES:
            self.assertEqual(last(shown(k)), [-1])
            self.assertEqual(last(text(0, EXAMPLE), text(1, EXAMPLE), shown(k)), [-1])


class Sizes(unittest.TestCase):

    def sizes(self, written):
        return last(text(0, written), sizes(0))

    def test_example(self):
        self.assertEqual(self.sizes(EXAMPLE), [4, 2, 1, 3, 5])

    def test_most(self):
        written = (
            "state a;state b;state c;final d;final e;final f;paper g;paper h;paper i;paper j;flag k;flag l;"
            + "from a on g to b;" * 16
        )
        self.assertEqual(self.sizes(written), [6, 4, 2, 16, 1])

    def test_the_cap(self):
        head = "state a;state b;paper p;"
        self.assertEqual(self.sizes(head), [2, 1, 0, 0, 1])
        self.assertEqual(self.sizes(head + "from a on p to b tell 9;")[4], 1)
        self.assertEqual(self.sizes(head + "from a after 1 to b;")[4], 2)
        self.assertEqual(self.sizes(head + "from a on p within 1 to b;")[4], 2)
        self.assertEqual(self.sizes(head + "from a after 12 to b;")[4], 13)
        self.assertEqual(self.sizes(head + "from a on p within 12 to b;")[4], 13)
        self.assertEqual(self.sizes(head + "from b on p within 7 to b;from a after 3 to b;")[4], 8)
        self.assertEqual(self.sizes(head + "from b on p within 3 to b;from a after 7 to b;")[4], 8)

    def test_refusals(self):
        self.assertEqual(ask(sizes(0), sizes(1)), [[-8], [-8]])
        self.assertEqual(ask(text(0, EXAMPLE), sizes(1))[1], [-8])
        for k in OUT_OF_PLACES:
            self.assertEqual(last(sizes(k)), [-1])
            self.assertEqual(last(text(0, EXAMPLE), text(1, EXAMPLE), sizes(k)), [-1])


def state_after(written, moves):
    """The state that the moves lead a case to, asked through the calls about cases."""
    calls = [text(0, written), open_case(0)]
    for move in moves:
        calls.append(days(1) if move == 0 else paper(0, move - 1))
    return last(*calls, state(0))[0]


class Reach(unittest.TestCase):

    def ways(self, written, count):
        return ask(text(0, written), *[reach(0, s) for s in range(count)])[1:]

    def test_example(self):
        self.assertEqual(
            self.ways(EXAMPLE, 4),
            [[1, 0], [1, 1, 1], [1, 4, 0, 0, 0, 0], [1, 2, 1, 2]],
        )

    def test_place_1(self):
        rows = ask(text(0, "state a;state b;"), text(1, EXAMPLE), reach(1, 2), reach(0, 1), reach(0, 2))
        self.assertEqual(rows[2:], [[1, 4, 0, 0, 0, 0], [0], [-5]])

    def test_the_beginning_needs_no_moves(self):
        self.assertEqual(self.ways("state a;", 1), [[1, 0]])
        written = "paper p;state a;state b;from a after 1 to b;from b after 1 to a;"
        self.assertEqual(self.ways(written, 2), [[1, 0], [1, 1, 0]])

    def test_no_way(self):
        self.assertEqual(self.ways("state a;final z;", 2), [[1, 0], [0]])
        self.assertEqual(self.ways("state a;state b;final z;paper p;from b on p to z;", 3), [[1, 0], [0], [0]])

    def test_shortest_before_least(self):
        written = "state a;final z;paper p;paper q;from a after 2 to z;from a on q to z;"
        self.assertEqual(self.ways(written, 2)[1], [1, 1, 2])

    def test_least_of_the_shortest(self):
        head = "state a;state b;state c;final z;paper p;paper q;paper r;"
        written = head + "from a on r to b;from a on q to c;from b on p to z;from c on r to z;"
        self.assertEqual(self.ways(written, 4)[3], [1, 2, 2, 3])
        written = head + "from a on q to z;from a on p to z;"
        self.assertEqual(self.ways(written, 4)[3], [1, 1, 1])
        written = head + "from a on p to z;from a after 1 to z;"
        self.assertEqual(self.ways(written, 4)[3], [1, 1, 0])

    def test_by_another_age_or_other_flags_of_the_same_state(self):
        written = "state a;final z;paper p;paper q;flag x;from a on q if -x to a then +x;from a on p if +x to z;"
        self.assertEqual(self.ways(written, 2)[1], [1, 2, 2, 1])
        written = "state a;state b;final z;paper p;from a on p within 2 to b;from a on p to z;"
        self.assertEqual(self.ways(written, 3)[2], [1, 4, 0, 0, 0, 1])

    def test_the_first_rule_hides_a_later_one(self):
        written = "state a;state b;final z;paper p;from a on p to b;from a on p to z;"
        self.assertEqual(self.ways(written, 3), [[1, 0], [1, 1, 1], [0]])

    def test_nothing_leads_out_of_a_final_state(self):
        written = "state a;final y;state z;paper p;flag f;from a after 1 to y;from a on p if +f to z;"
        self.assertEqual(self.ways(written, 3), [[1, 0], [1, 1, 0], [0]])

    def test_a_long_way(self):
        written = (
            "state a;state b;state c;state d;state e;final f;from a after 12 to b;from b after 12 to c;"
            "from c after 12 to d;from d after 12 to e;from e after 12 to f;"
        )
        self.assertEqual(last(text(0, written)), [5, 61])
        self.assertEqual(self.ways(written, 6)[5], [1, 60] + [0] * 60)

    def test_against_all_rows_of_moves(self):
        head = "state a;state b;state c;final z;paper p;paper q;flag x;flag y;"
        texts = (
            head + "from a on p within 1 if -x to b then +x;from b after 2 to a;from a on q if +x to c then +y;"
                   "from c on p if +y to z;",
            head + "from a after 1 to b then +y;from b on q within 1 if +y to c;from b on p to a then -y;"
                   "from c after 2 to z;from c on q to z then +x;",
            head + "from a on q to a then +x;from a on p if +x to b then -x;from b on p if -x to b then +x-y;"
                   "from b on p if +x to c;from c after 1 if +x to z;",
        )
        for written in texts:
            ways = self.ways(written, 4)
            for s in range(4):
                self.assertEqual(ways[s], self.first_row(written, s))

    def first_row(self, written, s):
        """By trying the rows in the order that the document tells, up to five moves."""
        for length in range(6):
            for moves in itertools.product(range(3), repeat=length):
                if state_after(written, moves) == s:
                    return [1, length] + list(moves)
        return [0]

    def test_refusals_in_their_order(self):
        for k in OUT_OF_PLACES:
            self.assertEqual(last(reach(k, 0)), [-1])
            self.assertEqual(last(text(0, EXAMPLE), text(1, EXAMPLE), reach(k, 0)), [-1])
        for s in (-1, 6, LEAST, MOST):
            self.assertEqual(last(reach(0, s)), [-1])
            self.assertEqual(last(text(0, EXAMPLE), reach(0, s)), [-1])
        self.assertEqual(ask(reach(0, 0), reach(0, 5), reach(1, 5)), [[-8], [-8], [-8]])
        self.assertEqual(ask(text(0, EXAMPLE), reach(1, 0), reach(0, 4), reach(0, 5))[1:], [[-8], [-5], [-5]])

    def test_six_states(self):
        written = "state a;state b;state c;state d;state e;state f;paper p;from a on p to f;"
        self.assertEqual(self.ways(written, 6), [[1, 0], [0], [0], [0], [0], [1, 1, 1]])

    def test_asking_changes_nothing(self):
        rows = ask(text(0, DAILY), open_case(0), reach(0, 0), shown(0), sizes(0), state(0), days(1))
        self.assertEqual(rows[2:], [[1, 0], codes(DAILY), [1, 2, 0, 2, 2], [0, 0, 0], [1, 0, 7]])


# Each call once at least, and with an answer that is no refusal.
EVERY_CALL = (
    text(0, EXAMPLE) + text(1, EXAMPLE) + shown(0) + sizes(0) + open_case(0) + days(2) + waiting(0) + paper(0, 0)
    + until(0, 1) + toward(0, 3) + state(0) + log(0) + reach(0, 3) + stuck(0) + clash(0) + idle(0) + same() + classes(0)
    + drop(0, 1) + drop(1, 0) + same() + clash(1) + stuck(1) + idle(1)
)


class TheLists(unittest.TestCase):

    def test_counts_before_answers(self):
        calls = text(0, EXAMPLE) + reach(0, 2) + open_case(0) + days(2) + paper(0, 0) + state(0) + reach(1, 0)
        expected = [2, 3, 12, 6, 1, 4, 0, 0, 0, 0, 1, 0, 1, 0, 2, 1, 1, 4, 1, 0, 0, 1, 1, -8]
        self.assertEqual(answers(calls), expected)

    def test_kinds(self):
        given = answers(EVERY_CALL)
        self.assertIs(type(given), list)
        for number in given:
            self.assertIs(type(number), int)

    def test_just_what_is_told(self):
        self.assertEqual(taken_apart(answers(EVERY_CALL)), [
            [3, 12], [3, 12], codes(EXAMPLE), [4, 2, 1, 3, 5], [0], [0], [1, 2], [1, 1], [1, 100], [1, 1, 2],
            [1, 0, 0, 1], [1, 1], [1, 2, 1, 2], [0], [0], [0], [1], [6],
            [2, 11], [2, 5], [0, 1, 1], [0], [0], [1, 1],
        ])

    def test_nothing_is_kept(self):
        given = answers(EVERY_CALL)
        self.assertEqual(answers(shown(0) + state(0) + days(1) + same() + classes(1)), [1, -8] * 5)
        self.assertEqual(answers(EVERY_CALL), given)

    def test_what_is_given_back_is_new(self):
        calls = text(0, DAILY) + shown(0)
        given = answers(calls)
        given.append(5)
        self.assertEqual(answers(calls), given[:-1])

    def test_400_calls(self):
        given = ask(text(0, EXAMPLE), open_case(0), *[days(1)] * 398)
        self.assertEqual(given[2:6], [[0], [0], [0], [1, 0, 9]])
        self.assertEqual(given[6:], [[0]] * 394)

    def test_what_is_handed_in_is_never_written_to(self):
        class Guarded(list):
            def refuse(self, *rest):
                raise AssertionError("written to")
            __setitem__ = __delitem__ = __iadd__ = __imul__ = refuse
            append = extend = insert = pop = remove = clear = sort = reverse = refuse

        calls = Guarded(EVERY_CALL)
        self.assertEqual(answers(calls), answers(list(calls)))


if __name__ == "__main__":
    unittest.main()

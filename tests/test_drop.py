"""Call 17 drop."""

import unittest

from tests.helper import (
    DAILY, EXAMPLE, HUNDRED, LEAST, MOST, ask, clash, codes, days, drop, idle, last, log, open_case, paper, reach, same,
    shown, sizes, state, text,
)

HEAD = "state a;state b;final z;paper p;paper q;"
FOUR = (
    "from a on p to b tell 1;", "from a on q within 5 to z tell 2;", "from b after 3 to z tell 3;",
    "from b on q to a tell 4;",
)

# Its first rule hides the one behind it, by which more than 100 configurations can be reached.
HIDING = HUNDRED.replace("from a on p within 3 to b;from a on p to b;", "from a on p to a;from a on p within 4 to b;")


class Drop(unittest.TestCase):

    def test_example(self):
        rows = ask(text(0, EXAMPLE), drop(0, 1), shown(0), sizes(0), reach(0, 2))
        left = EXAMPLE.replace("from in after 4 to gone tell 9;", "")
        self.assertEqual(rows[1:], [[2, 11], codes(left), [4, 2, 1, 2, 4], [0]])

    def test_each_rule(self):
        for i in range(4):
            left = HEAD + "".join(FOUR[:i] + FOUR[i + 1:])
            for k in (0, 1):
                asked = [shown(k), sizes(k), idle(k), clash(k)]
                self.assertEqual(ask(text(k, HEAD + "".join(FOUR)), drop(k, i), *asked)[1:], ask(text(k, left), *asked))

    def test_the_rules_behind_are_one_less(self):
        written = HEAD + "".join(FOUR)
        calls = [open_case(0), paper(0, 0), paper(0, 1), paper(0, 1)]
        self.assertEqual(ask(text(0, written), *calls)[2:], [[1, 1], [4, 4], [2, 2]])
        self.assertEqual(ask(text(0, written), drop(0, 2), *calls)[3:], [[1, 1], [4, 3], [2, 2]])
        self.assertEqual(ask(text(0, written), drop(0, 0), *calls)[3:], [[0, 0], [2, 1], [0, 0]])
        self.assertEqual(ask(text(0, written), drop(0, 3), *calls)[3:], [[1, 1], [0, 0], [0, 0]])

    def test_the_cap_is_that_of_the_rules_left(self):
        written = "state a;final z;paper p;from a on p within 12 to z;from a after 3 if +x to z;from a on p to z;"
        written = written.replace("paper p;", "paper p;flag x;")
        rows = ask(text(0, written), sizes(0), drop(0, 0), sizes(0), open_case(0), days(50), state(0), drop(0, 0),
                   sizes(0), open_case(0), days(50), state(0))
        self.assertEqual(rows, [
            [3, 15], [2, 1, 1, 3, 13], [2, 6], [2, 1, 1, 2, 4], [0], [0], [0, 4, 0, 0],
            [1, 3], [2, 1, 1, 1, 1], [0], [0], [0, 1, 0, 0],
        ])

    def test_the_greatest_days_stay(self):
        written = "state a;final z;paper p;from a on p within 3 to z;from a after 7 to z;"
        self.assertEqual(ask(text(0, written), drop(0, 0), sizes(0))[1:], [[1, 8], [2, 1, 0, 1, 8]])

    def test_a_rule_behind_it_comes_to_do_something(self):
        written = HEAD + "from a on p to b;from a on p to z;"
        self.assertEqual(ask(text(0, written), idle(0), reach(0, 2), drop(0, 0), idle(0), reach(0, 2))[1:],
                         [[1, 1], [0], [1, 3], [0], [1, 1, 1]])

    def test_one_of_two_alike(self):
        rule = "from a on p to b;"
        self.assertEqual(ask(text(0, HEAD + rule * 2), drop(0, 1), shown(0))[1:], [[1, 4], codes(HEAD + rule)])

    def test_until_none_is_left(self):
        rows = ask(text(0, EXAMPLE), drop(0, 0), drop(0, 0), drop(0, 0), drop(0, 0), sizes(0))
        self.assertEqual(rows[1:], [[2, 5], [1, 2], [0, 2], [-5], [4, 2, 1, 0, 1]])

    def test_sixteen_rules(self):
        written = HEAD + "from a on p to b;" * 15 + "from b on p to z;"
        rows = ask(text(0, written), drop(0, 15), drop(0, 15), drop(0, 14), shown(0))
        self.assertEqual(rows[1:], [[15, 4], [-5], [14, 4], codes(HEAD + "from a on p to b;" * 14)])

    def test_place_0_closes_all_cases(self):
        rows = ask(text(0, DAILY), open_case(0), open_case(1), open_case(2), days(1), drop(0, 1), state(0), state(1),
                   state(2), log(0), days(1), open_case(1), log(1), state(1))
        self.assertEqual(rows[5:], [[1, 1], [-8], [-8], [-8], [-8], [0], [0], [0], [0, 0, 0]])

    def test_place_1_leaves_the_cases(self):
        rows = ask(text(0, DAILY), text(1, DAILY), open_case(1), days(2), drop(1, 0), shown(0), log(1), days(1))
        self.assertEqual(rows[4:], [[1, 2], codes(DAILY), [2, 7, 7], [1, 1, 7]])

    def test_the_places_are_apart(self):
        rows = ask(text(0, EXAMPLE), text(1, EXAMPLE), drop(0, 2), shown(1), same(), drop(1, 2), same())
        self.assertEqual(rows[2:], [[2, 11], codes(EXAMPLE), [0, 2, 1, 2], [2, 11], [1]])

    def test_too_many_configurations(self):
        self.assertEqual(last(text(0, HIDING)), [7, 24])
        for k in (0, 1):
            rows = ask(text(k, HIDING), drop(k, 0), shown(k), sizes(k))
            self.assertEqual(rows[1:], [[-7], codes(HIDING), [6, 4, 2, 7, 5]])

    def test_a_hundred_configurations(self):
        just = HIDING.replace("within 4", "within 3")
        self.assertEqual(ask(text(0, just), drop(0, 0))[1], [6, 100])

    def test_refusals_in_their_order(self):
        for k in (-1, 2, LEAST, MOST):
            self.assertEqual(ask(drop(k, 0), text(0, EXAMPLE), text(1, EXAMPLE), drop(k, 0), drop(k, 9))[::3],
                             [[-1], [-1]])
        for i in (-1, 16, 17, LEAST, MOST):
            self.assertEqual(ask(drop(0, i), text(0, EXAMPLE), drop(0, i), drop(1, i)), [[-1], [3, 12], [-1], [-1]])
        self.assertEqual(ask(drop(0, 0), drop(1, 15), text(0, EXAMPLE), drop(1, 0), drop(1, 15)),
                         [[-8], [-8], [3, 12], [-8], [-8]])
        self.assertEqual(ask(text(0, EXAMPLE), drop(0, 3), drop(0, 15), drop(0, 2))[1:], [[-5], [-5], [2, 11]])
        self.assertEqual(last(text(0, "state a;"), drop(0, 0)), [-5])
        self.assertEqual(last(text(0, HIDING), drop(0, 7)), [-5])

    def test_a_refusal_changes_nothing(self):
        for refused, number in (
            (drop(0, 0), -7), (drop(0, 7), -5), (drop(0, 16), -1), (drop(2, 0), -1), (drop(1, 0), -8),
        ):
            rows = ask(text(0, HIDING), open_case(0), paper(0, 1), days(2), refused, shown(0), shown(1), sizes(0),
                       state(0), paper(0, 0), state(0))
            self.assertEqual(
                rows[4:],
                [[number], codes(HIDING), [-8], [6, 4, 2, 7, 5], [0, 2, 0, 1, 0], [0, 1], [0, 0, 0, 1, 0]],
            )

    def test_what_was_told_in_another_text_is_gone(self):
        rows = ask(text(0, EXAMPLE), drop(0, 0), text(0, EXAMPLE), shown(0), drop(0, 2), shown(0))
        self.assertEqual(rows[2:4], [[3, 12], codes(EXAMPLE)])
        self.assertEqual(rows[5], codes(EXAMPLE.replace("from exam on reply if +paid to given tell 2;", "")))


if __name__ == "__main__":
    unittest.main()

"""Calls 9 stuck, 10 clash, 11 idle, 12 same and 13 classes."""

import itertools
import unittest

from tests.helper import (
    DAILY, EXAMPLE, HUNDRED, LEAST, MOST, ask, clash, classes, codes, days, drop, idle, last, log, open_case, paper,
    reach, same, shown, sizes, state, stuck, text, toward, until, waiting,
)

OUT_OF_PLACES = (-1, 2, 3, 255, LEAST, MOST)
ONE_PAPER = "state a;state b;final z;paper p;"
TWO_PAPERS = "state a;state b;state c;final z;paper p;paper q;flag x;flag y;"


def chain(count):
    """A text with four papers and as many configurations as told, 3 to 14: one state, ages 0 to the cap."""
    return f"state a;state b;paper p;paper q;paper r;paper s;from b on p within {count - 2} to b;"


class OfOnePlace:
    """What the calls with a place alone have in common."""

    def answer(self, written):
        first, second = ask(text(0, written), text(1, written), self.call(0), self.call(1))[2:]
        self.assertEqual(first, second)
        return first

    def test_each_place_has_its_own(self):
        other = "state a;paper p;paper q;from a on p to a;from a on p to a tell 2;from a on p to a tell 3;"
        rows = ask(text(0, EXAMPLE), text(1, other), self.call(0), self.call(1))
        self.assertEqual(rows[2:], [self.answer(EXAMPLE), self.answer(other)])
        self.assertNotEqual(rows[2], rows[3])

    def test_refusals_in_their_order(self):
        for k in OUT_OF_PLACES:
            self.assertEqual(last(self.call(k)), [-1])
            self.assertEqual(last(text(0, EXAMPLE), text(1, EXAMPLE), self.call(k)), [-1])
        self.assertEqual(ask(self.call(0), self.call(1)), [[-8], [-8]])
        self.assertEqual(ask(text(0, EXAMPLE), self.call(1), text(1, EXAMPLE + ";"), self.call(1))[1::2], [[-8], [-8]])
        self.assertEqual(ask(text(1, EXAMPLE), self.call(0))[1], [-8])

    def test_asking_changes_nothing(self):
        rows = ask(text(0, DAILY), open_case(0), days(2), self.call(0), self.call(0), self.call(1), shown(0), shown(1),
                   state(0), log(0), days(1))
        self.assertEqual(rows[3], rows[4])
        self.assertEqual(rows[5:], [[-8], codes(DAILY), [-8], [0, 0, 0], [2, 7, 7], [1, 0, 7]])

    def test_the_case_has_no_say(self):
        rows = ask(text(0, EXAMPLE), self.call(0), open_case(0), days(1), paper(0, 0), self.call(0), paper(0, 1),
                   self.call(0))
        self.assertEqual(rows[1], rows[5])
        self.assertEqual(rows[1], rows[7])


class Stuck(OfOnePlace, unittest.TestCase):
    call = staticmethod(stuck)

    def test_example(self):
        self.assertEqual(self.answer(EXAMPLE), [0])

    def test_no_final_state(self):
        self.assertEqual(self.answer("state a;"), [1, 0])
        self.assertEqual(self.answer(DAILY), [1, 0])

    def test_a_final_state_that_cannot_be_reached(self):
        self.assertEqual(self.answer("state a;final z;"), [1, 0])
        self.assertEqual(self.answer(ONE_PAPER + "from b on p to z;"), [1, 0])

    def test_a_final_configuration_is_not_stuck(self):
        self.assertEqual(self.answer("state a;final z;from a after 1 to z;"), [0])
        self.assertEqual(self.answer("state a;final z;final y;paper p;from a on p to y;"), [0])

    def test_another_state(self):
        self.assertEqual(self.answer(ONE_PAPER + "from a after 1 to z;from a on p to b;"), [1, 1, 1])
        self.assertEqual(self.answer(TWO_PAPERS + "from a on p to b;from b on q to c;from b on p to z;"), [1, 2, 1, 2])

    def test_a_way_back_is_no_stuck_one(self):
        self.assertEqual(self.answer(ONE_PAPER + "from a on p to b;from b after 9 to a;from a after 2 to z;"), [0])

    def test_too_late(self):
        self.assertEqual(self.answer("state a;final z;paper p;from a on p within 1 to z;"), [1, 2, 0, 0])
        self.assertEqual(self.answer("state a;final z;paper p;from a on p within 12 to z;"), [1, 13] + [0] * 13)
        late = "flag x;from a after 2 if +x to z;from a on p within 3 to a then +x;"
        self.assertEqual(self.answer("state a;final z;paper p;" + late), [1, 4, 0, 0, 0, 0])

    def test_by_flags_alone(self):
        written = "state a;final z;paper p;paper q;flag x;from a on p if -x to z;from a on q to a then +x;"
        self.assertEqual(self.answer(written), [1, 1, 2])
        self.assertEqual(self.answer(written + "from a after 1 if +x to a then -x;"), [0])

    def test_shortest_then_least(self):
        rules = "from a on q to b;from a on p to c;from a after 1 to z;"
        self.assertEqual(self.answer(TWO_PAPERS + rules), [1, 1, 1])
        rules = "from a after 1 to b;from b on p to b then +x;from b on q if -x to z;from a on q to c;"
        self.assertEqual(self.answer(TWO_PAPERS + rules), [1, 1, 2])

    def test_a_state_that_cannot_be_reached_does_not_count(self):
        self.assertEqual(self.answer("state a;state b;final z;from a after 1 to z;"), [0])


class Clash(OfOnePlace, unittest.TestCase):
    call = staticmethod(clash)

    def test_example(self):
        self.assertEqual(self.answer(EXAMPLE), [0])

    def test_at_the_beginning(self):
        self.assertEqual(self.answer(ONE_PAPER + "from a on p to b;from a on p to z;"), [1, 0, 1, 1, 0])
        self.assertEqual(self.answer(ONE_PAPER + "from a after 1 to b;from a after 1 to b;"), [1, 0, 1, 0, 0])

    def test_no_rules(self):
        self.assertEqual(self.answer("state a;"), [0])

    def test_the_first_two_of_three(self):
        written = ONE_PAPER + "from b on p to b;from a on p to b;from a after 1 to b;from a on p to b;from a on p to z;"
        self.assertEqual(self.answer(written), [1, 1, 3, 1, 0])

    def test_the_least_move(self):
        rules = "from a on q to b;from a on q to c;from a on p to b;from a on p to c;"
        self.assertEqual(self.answer(TWO_PAPERS + rules), [1, 2, 3, 1, 0])
        self.assertEqual(self.answer(TWO_PAPERS + rules + "from a after 1 to a;from a after 1 to b;"), [1, 4, 5, 0, 0])

    def test_the_first_configuration_before_the_least_move(self):
        rules = "from b after 1 to b;from b after 1 to c;from a on q to c;from a on q to b;"
        self.assertEqual(self.answer(TWO_PAPERS + rules), [1, 2, 3, 2, 0])

    def test_rules_on_different_moves_do_not_meet(self):
        self.assertEqual(self.answer(TWO_PAPERS + "from a on p to b;from a on q to c;from a after 1 to z;"), [0])
        self.assertEqual(self.answer(TWO_PAPERS + "from a on p to b;from b on p to c;from c on p to z;"), [0])

    def test_days(self):
        self.assertEqual(self.answer(ONE_PAPER + "from a after 2 to b;from a after 3 to z;"), [0])
        self.assertEqual(self.answer(ONE_PAPER + "from a after 2 to b;from a after 2 to z;"), [1, 0, 1, 0, 1, 0])
        rules = "from a after 12 to b;from a after 12 to z;"
        self.assertEqual(self.answer(ONE_PAPER + rules), [1, 0, 1, 0, 11] + [0] * 11)
        self.assertEqual(self.answer(ONE_PAPER + "from a on p within 1 to b;from a on p within 3 to z;"),
                         [1, 0, 1, 1, 0])

    def test_a_rule_by_time_that_another_forestalls(self):
        rules = "from a after 1 to b;from a after 2 to b;from a after 2 to z;"
        self.assertEqual(self.answer(ONE_PAPER + rules), [0])

    def test_conditions(self):
        self.assertEqual(self.answer(TWO_PAPERS + "from a on p if +x to b;from a on p if -x to c;"), [0])
        rules = "from a on p if +x to b;from a on p to c;"
        self.assertEqual(self.answer(TWO_PAPERS + rules), [0])
        self.assertEqual(self.answer(TWO_PAPERS + rules + "from a on q to a then +x;"), [1, 0, 1, 1, 1, 2])
        rules = (
            "from a on p if +x-y to b;from a on p if -y to c;from a on q to a then +x+y;from a after 2 to a then +x;"
        )
        self.assertEqual(self.answer(TWO_PAPERS + rules), [1, 0, 1, 1, 2, 0, 0])

    def test_what_cannot_be_reached_does_not_count(self):
        self.assertEqual(self.answer(ONE_PAPER + "from b on p to b;from b on p to z;from a on p to a;"), [0])

    def test_the_first_way_there(self):
        rules = "from a on q to b;from a on p to c;from b on q to z;from b on q to b;from c on p to z;from c on p to a;"
        self.assertEqual(self.answer(TWO_PAPERS + rules), [1, 4, 5, 1, 1, 1])

    def test_rule_15(self):
        written = ONE_PAPER + "from b on p to a;" * 14 + "from a on p to z;" * 2
        self.assertEqual(self.answer(written), [1, 14, 15, 1, 0])


class Idle(OfOnePlace, unittest.TestCase):
    call = staticmethod(idle)

    def test_example(self):
        self.assertEqual(self.answer(EXAMPLE), [0])

    def test_no_rules(self):
        self.assertEqual(self.answer("state a;"), [0])

    def test_behind_a_rule_that_always_comes_first(self):
        self.assertEqual(self.answer(ONE_PAPER + "from a on p to b;from a on p to z;"), [1, 1])
        self.assertEqual(self.answer(ONE_PAPER + "from a on p within 2 to b;from a on p to z;"), [0])
        self.assertEqual(self.answer(ONE_PAPER + "from a on p to b;from a on p within 2 to z;"), [1, 1])

    def test_states_that_cannot_be_reached(self):
        self.assertEqual(self.answer(ONE_PAPER + "from b on p to z;from a on p to z;from b after 3 to z;"), [2, 0, 2])

    def test_flags_that_never_are_so(self):
        self.assertEqual(self.answer(TWO_PAPERS + "from a on p if +x to b;from a on q if -x to c;"), [1, 0])
        rules = "from a on p if +x+y to b;from a on q if -y to a then +x;from a on q if +x to b then +y;"
        self.assertEqual(self.answer(TWO_PAPERS + rules), [2, 0, 2])

    def test_days_that_never_end(self):
        self.assertEqual(self.answer(ONE_PAPER + "from a after 3 to z;from a after 2 to b;from b after 12 to a;"),
                         [1, 0])
        self.assertEqual(self.answer(ONE_PAPER + "from a after 12 to z;"), [0])

    def test_a_rule_that_changes_nothing_is_done_too(self):
        self.assertEqual(self.answer("state a;paper p;from a on p to a;"), [0])

    def test_only_from_an_age_that_cannot_be_reached(self):
        rules = "from a on p within 2 to b;from a after 3 to z;from a on p to z;"
        self.assertEqual(self.answer(ONE_PAPER + rules), [1, 2])

    def test_all_sixteen(self):
        self.assertEqual(self.answer(ONE_PAPER + "from b on p to a;" * 16), [16] + list(range(16)))


class Classes(OfOnePlace, unittest.TestCase):
    call = staticmethod(classes)

    def test_example(self):
        # Four ages in the first state, the second at any age, and both finals.
        self.assertEqual(self.answer(EXAMPLE), [6])

    def test_one(self):
        self.assertEqual(self.answer("state a;"), [1])
        self.assertEqual(self.answer(DAILY), [1])
        self.assertEqual(self.answer(HUNDRED), [1])

    def test_nothing_is_seen_before_a_move(self):
        # From the final state and from the one ahead of it one sees only final states.
        self.assertEqual(self.answer("state a;final z;from a after 1 to z;"), [1])
        self.assertEqual(self.answer("state a;final z;paper p;from a after 1 to z;from a on p to z;"), [1])
        self.assertEqual(self.answer("state a;final z;paper p;from a after 1 to z;"), [2])
        self.assertEqual(self.answer("state a;final z;from a after 1 to z tell 1;"), [2])
        self.assertEqual(self.answer("state a;final z;from a after 2 to z;"), [2])

    def test_events(self):
        head = "state a;state b;paper p;from a on p to b tell 1;"
        self.assertEqual(self.answer(head + "from b on p to a tell 1;"), [1])
        self.assertEqual(self.answer(head + "from b on p to a tell 2;"), [2])
        self.assertEqual(self.answer(head + "from b on p to a;"), [2])
        self.assertEqual(self.answer(head), [2])

    def test_ages(self):
        self.assertEqual(self.answer("state a;from a after 12 to a tell 1;"), [12])
        self.assertEqual(self.answer("state a;from a after 12 to a;"), [1])
        self.assertEqual(self.answer("state a;paper p;from a on p within 12 to a tell 1;"), [14])
        self.assertEqual(self.answer("state a;paper p;from a on p within 3 to a tell 1;from a on p to a tell 1;"), [1])

    def test_flags(self):
        head = "state a;paper p;paper q;flag x;flag y;from a on p to a then +x;from a on q to a then +y;"
        self.assertEqual(self.answer(head), [1])
        self.assertEqual(self.answer(head + "from a after 1 if +x to a tell 1;"), [2])
        self.assertEqual(self.answer(head + "from a after 1 if +x+y to a tell 1;"), [4])

    def test_told_apart_only_by_long_rows(self):
        rules = "from a on p to b;from b on p to c;from c on p to d;from d on p to e;from e on p to z;"
        written = "state a;state b;state c;state d;state e;final z;paper p;" + rules
        self.assertEqual(self.answer(written), [6])

    def test_final_states_with_other_flags(self):
        written = "state a;final y;final z;paper p;paper q;flag x;from a on p to y then +x;from a on q to z;"
        self.assertEqual(self.answer(written), [2])

    def test_only_what_can_be_reached(self):
        self.assertEqual(self.answer(ONE_PAPER + "from b on p to z tell 1;"), [1])


class Same(unittest.TestCase):

    def answer(self, one, other):
        ahead, behind = last(text(0, one), text(1, other), same()), last(text(0, other), text(1, one), same())
        self.assertEqual(ahead, behind)
        return ahead

    def test_twice_the_same_text(self):
        for written in (EXAMPLE, DAILY, "state a;", ONE_PAPER + "from a on p to b;from b after 2 to z tell 1;"):
            self.assertEqual(self.answer(written, written), [1])

    def test_names_and_order_have_no_say(self):
        other = (
            "flag money;paper cash;paper word;state one;final three;state two;final four;"
            "from two on word if +money to four tell 2;from one after 4 to three tell 9;"
            "from one on cash within 3 to two then +money tell 1;"
        )
        self.assertEqual(self.answer(EXAMPLE, other), [1])
        swapped = EXAMPLE.replace("paper fee;paper reply;", "paper reply;paper fee;")
        self.assertEqual(self.answer(EXAMPLE, swapped), [0, 1, 1])

    def test_final_states_at_the_beginning_of_which_nothing_is_seen(self):
        # Both have only one move; behind it one is final and the other is not.
        self.assertEqual(self.answer("state a;final z;from a after 1 to z;", "state a;"), [0, 1, 0])
        self.assertEqual(
            self.answer("state a;final z;from a after 1 to z;", "state a;state b;final z;from a after 1 to b;"),
            [0, 1, 0],
        )

    def test_events(self):
        head = "state a;paper p;"
        self.assertEqual(self.answer(head + "from a on p to a tell 1;", head + "from a on p to a tell 2;"), [0, 1, 1])
        self.assertEqual(self.answer(head + "from a on p to a tell 1;", head), [0, 1, 1])
        self.assertEqual(self.answer(head + "from a on p to a;", head), [1])

    def test_a_rule_that_is_never_done(self):
        rules = "from a on p to b tell 1;from b after 3 to z;"
        self.assertEqual(self.answer(ONE_PAPER + rules, ONE_PAPER + rules + "from a on p to z tell 2;"), [1])

    def test_states_that_do_the_same(self):
        one = "state a;final z;paper p;from a on p to z;"
        other = "state a;state b;final y;final z;paper p;flag x;from a after 1 to b then +x;from a on p to y;"
        self.assertEqual(self.answer(one, other + "from b on p to z;"), [1])
        self.assertEqual(self.answer(one, other), [0, 2, 0, 1])

    def test_days(self):
        one = "state a;final z;from a after {} to z;"
        self.assertEqual(self.answer(one.format(11), one.format(12)), [0, 11] + [0] * 11)
        late = "state a;final z;paper p;from a on p within {} to z;"
        self.assertEqual(self.answer(late.format(3), late.format(5)), [0, 5, 0, 0, 0, 0, 1])

    def test_shortest_then_least(self):
        one = TWO_PAPERS + "from a on p to b;from a on q to c;from b on q to z;from c on p to z;"
        self.assertEqual(self.answer(one, TWO_PAPERS + "from a on p to b;from a on q to c;"), [0, 2, 1, 2])
        self.assertEqual(self.answer(one, one + "from a after 3 to z;"), [0, 3, 0, 0, 0])
        self.assertEqual(self.answer(one, one + "from a after 2 to z tell 4;"), [0, 2, 0, 0])
        self.assertEqual(self.answer(one, one.replace("from c on p to z;", "from c on p to z tell 5;")), [0, 2, 2, 1])
        self.assertEqual(self.answer(one, one + "from a after 1 to z;from a after 2 to z;"), [0, 1, 0])

    def test_the_row_ends_with_the_first_difference(self):
        one = TWO_PAPERS + "from a on p to b tell 1;from b on p to z;"
        other = TWO_PAPERS + "from a on p to b tell 2;from b on p to a;"
        self.assertEqual(self.answer(one, other), [0, 1, 1])

    def test_no_papers(self):
        self.assertEqual(self.answer("state a;", "state b;state c;final d;flag e;"), [1])

    def test_against_all_rows_of_moves(self):
        rules = ("from a on p within 1 to b tell 1;", "from b after 2 if -x to a then +x;", "from a on q if +x to z;",
                 "from b on q to c then +y tell 2;", "from c on p if +y to z;")
        whole = TWO_PAPERS + "".join(rules)
        for out in range(len(rules)):
            other = TWO_PAPERS + "".join(rules[:out] + rules[out + 1:])
            self.assertEqual(self.answer(whole, other), self.first_row(whole, other))

    def first_row(self, one, other):
        """By trying the rows in the order that the document tells, up to five moves, on cases."""
        for length in range(1, 6):
            for moves in itertools.product(range(3), repeat=length):
                if sights(one, moves) != sights(other, moves):
                    return [0, length] + list(moves)
        return [1]

    def test_no_text(self):
        self.assertEqual(last(same()), [-8])
        self.assertEqual(last(text(0, EXAMPLE), same()), [-8])
        self.assertEqual(last(text(1, EXAMPLE), same()), [-8])
        self.assertEqual(last(text(0, EXAMPLE), text(1, EXAMPLE + ";"), same()), [-8])

    def test_not_as_many_papers(self):
        self.assertEqual(self.answer("state a;", "state a;paper p;"), [-5])
        self.assertEqual(self.answer("state a;paper p;paper q;paper r;paper s;", "state a;paper p;paper q;paper r;"),
                         [-5])

    def test_a_thousand_pairs(self):
        self.assertEqual(ask(text(0, HUNDRED), text(1, chain(10)), same()), [[7, 100], [1, 10], [1]])
        self.assertEqual(self.answer(HUNDRED, chain(10)), [1])
        self.assertEqual(self.answer(HUNDRED, chain(11)), [-7])
        self.assertEqual(self.answer(HUNDRED, HUNDRED), [-7])

    def test_one_pair_more(self):
        # 77 times 13; and 77 times 12 is no more than 1000.
        many = (
            "state a;state b;paper p;paper q;paper r;paper s;flag x;flag y;from a on q to a then +x;"
            "from a on r to a then +y;from a on p if +x to b;from a on p if +y to b;from b on p within 9 to b;"
        )
        self.assertEqual(ask(text(0, many), text(1, chain(13)), same()), [[5, 77], [1, 13], [-7]])
        self.assertEqual(self.answer(many, chain(12)), [1])

    def test_refusals_in_their_order(self):
        self.assertEqual(self.answer(HUNDRED, HUNDRED.replace("paper s;", "")), [-5])
        self.assertEqual(last(text(0, HUNDRED), same()), [-8])

    def test_it_has_its_number_alone(self):
        rows = ask(same(), sizes(1), text(0, EXAMPLE), same(), text(1, EXAMPLE), same(), same(), shown(0))
        self.assertEqual(rows, [[-8], [-8], [3, 12], [-8], [3, 12], [1], [1], codes(EXAMPLE)])

    def test_asking_changes_nothing(self):
        for other, answer in ((DAILY, [1]), (HUNDRED, [-5]), (EXAMPLE, [0, 1, 0])):
            rows = ask(text(0, DAILY), text(1, other), open_case(2), days(2), same(), shown(0), shown(1), state(2),
                       log(2), days(1), state(0))
            self.assertEqual(rows[4:], [answer, codes(DAILY), codes(other), [0, 0, 0], [2, 7, 7], [1, 2, 7], [-8]])


def sights(written, moves):
    """What one sees of each move, asked through the calls about cases."""
    calls = [text(0, written), open_case(0)]
    for move in moves:
        calls.extend([days(1) if move == 0 else paper(0, move - 1), log(0), state(0)])
    rows = ask(*calls)
    return [(tuple(rows[at]), rows[at + 1][2]) for at in range(3, len(rows), 3)]


class TheExample(unittest.TestCase):

    def test_whole(self):
        self.assertEqual(
            ask(text(0, EXAMPLE), reach(0, 2), stuck(0), idle(0), open_case(0), days(2), paper(0, 0), state(0),
                until(0, 1), waiting(0)),
            [[3, 12], [1, 4, 0, 0, 0, 0], [0], [0], [0], [0], [1, 1], [1, 0, 0, 1], [1, 100], [0]],
        )


class EveryCall(unittest.TestCase):
    """All calls 0 to 17 with each number at the ends of its range, and just beyond."""

    # Sixteen rules, six states, four papers: so no number in its range is too great for the text.
    FULL = (
        "state a;state b;state c;state d;state e;final f;paper p;paper q;paper r;paper s;"
        + "from a on p to b;from b on p to f;" + "from a on s to a;" * 14
    )
    RANGES = (
        (text, (0, 1)), (shown, (0, 1)), (sizes, (0, 1)), (open_case, (0, 2)), (paper, (0, 2), (0, 3)), (days, (1, 50)),
        (state, (0, 2)), (log, (0, 2)), (reach, (0, 1), (0, 5)), (stuck, (0, 1)), (clash, (0, 1)), (idle, (0, 1)),
        (same,), (classes, (0, 1)), (waiting, (0, 2)), (until, (0, 2), (0, 3)), (toward, (0, 2), (0, 5)),
        (drop, (0, 1), (0, 15)),
    )

    def made(self, call, numbers):
        return call(*numbers, self.FULL) if call is text else call(*numbers)

    def ready(self, call):
        """The answer of a call where both places have a text and all cases are open."""
        return last(text(0, self.FULL), text(1, self.FULL), open_case(0), open_case(1), open_case(2), call)

    def test_in_their_order(self):
        numbers = [self.made(row[0], [pair[0] for pair in row[1:]])[0] for row in self.RANGES]
        self.assertEqual(numbers, list(range(18)))

    def test_at_the_ends(self):
        for call, *ranges in self.RANGES:
            for numbers in itertools.product(*ranges):
                self.assertGreaterEqual(self.ready(self.made(call, numbers))[0], 0, (call, numbers))

    def test_just_beyond(self):
        for call, *ranges in self.RANGES:
            for at, (least, most) in enumerate(ranges):
                for beyond in (least - 1, most + 1, LEAST, MOST):
                    numbers = [pair[0] for pair in ranges]
                    numbers[at] = beyond
                    made = self.made(call, numbers)
                    self.assertEqual(self.ready(made), [-1], made[:3])
                    # Also where there is no text: a range is looked at first.
                    self.assertEqual(last(made), [-1], made[:3])

    def test_without_a_text(self):
        for call, *ranges in self.RANGES[1:]:
            for numbers in itertools.product(*ranges):
                self.assertEqual(last(self.made(call, numbers)), [-8], (call, numbers))


if __name__ == "__main__":
    unittest.main()

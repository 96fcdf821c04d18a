"""Call 0 text: when a text is right, what it answers, and what it does to the cases."""

import unittest

from tests.helper import (
    DAILY, EXAMPLE, HUNDRED, LEAST, MOST, ask, codes, days, last, log, open_case, paper, shown, sizes, state, text,
)

WORDS = "state final paper flag from on after within if to then tell".split()
HEAD = "state a;state b;final z;paper p;paper q;flag x;flag y;"


class Cases(unittest.TestCase):

    def right(self, written):
        answer = last(text(0, written))
        self.assertEqual(len(answer), 2, (written, answer))
        return answer

    def wrong(self, written):
        self.assertEqual(ask(text(0, written), shown(0)), [[-6], [-8]], written)


class RightTexts(Cases):

    def test_example(self):
        self.assertEqual(last(text(0, EXAMPLE)), [3, 12])
        self.assertEqual(last(text(1, EXAMPLE)), [3, 12])

    def test_smallest(self):
        # Nothing tells days: the cap is 1, so ages 0 and 1 are reached.
        self.assertEqual(last(text(0, "state a;")), [0, 2])

    def test_all_parts_together(self):
        self.right(HEAD + "from a on p within 12 if +x-y to z then -x+y tell 9;")
        self.right(HEAD + "from a after 1 if -x to a then +y tell 1;")
        self.right(HEAD + "from a on q to b;from b after 12 to z;")

    def test_names_in_any_order(self):
        written = "flag x;paper p;state a;final z;flag y;state b;paper q;from a on q if +x-y to z;"
        self.assertEqual(
            ask(text(0, written), sizes(0)),
            [[1, 2], [3, 2, 2, 1, 1]],
        )

    def test_rules_of_the_least_kinds(self):
        self.right("state a;from a after 1 to a;")
        self.right("state a;paper p;from a on p to a;")


class Counts(Cases):

    def named(self, word, count):
        return "".join(f"{word} {word[0]}{'abcdefg'[k]};" for k in range(count))

    def test_states(self):
        self.right(self.named("state", 6))
        self.wrong(self.named("state", 7))

    def test_finals_are_among_the_states(self):
        self.right("state a;" + self.named("final", 5))
        self.wrong("state a;" + self.named("final", 6))
        self.wrong(self.named("state", 6) + "final z;")

    def test_papers(self):
        self.right("state a;" + self.named("paper", 4))
        self.wrong("state a;" + self.named("paper", 5))

    def test_flags(self):
        self.right("state a;" + self.named("flag", 2))
        self.wrong("state a;" + self.named("flag", 3))

    def test_rules(self):
        rule = "from a on p to a;"
        self.assertEqual(self.right("state a;paper p;" + rule * 16)[0], 16)
        self.wrong("state a;paper p;" + rule * 17)

    def test_longest(self):
        rule = "from ss on ppppppp within 12 if +fffffff to ss tell 9;"
        written = "state ss;paper ppppppp;flag fffffff;" + rule * 16
        self.assertEqual(len(written), 900)
        self.assertEqual(ask(text(0, written), shown(0)), [[16, 14], codes(written)])


class Names(Cases):

    def test_lengths(self):
        self.right("state a;")
        self.right("state abcdefgh;")
        self.wrong("state abcdefghi;")
        self.wrong("state ;")
        self.wrong("state;")

    def test_each_kind_is_held_to_the_length(self):
        for word in ("final", "paper", "flag"):
            self.right(f"state a;{word} abcdefgh;")
            self.wrong(f"state a;{word} abcdefghi;")
            self.wrong(f"state a;{word} ;")

    def test_letters(self):
        self.right("state az;")
        for name in ("A", "aB", "a1", "1", "a_", "a-", "+a", "a.b", "`", "{", "a\n", "a\t", "a\0"):
            self.wrong(f"state {name};")
        self.wrong(codes("state a") + [228] + codes(";"))
        self.wrong(codes("state ") + [255] + codes(";"))

    def test_listed_words(self):
        for word in WORDS:
            self.wrong(f"state {word};")
            self.wrong(f"state a;paper {word};")
            self.wrong(f"state a;flag {word};")
            self.wrong(f"state a;final {word};")

    def test_words_like_the_listed(self):
        for name in ("in", "states", "o", "days", "tells", "stat", "day", "not", "and"):
            self.right(f"state {name};")

    def test_told_twice(self):
        self.wrong("state a;state a;")
        self.wrong("state a;final a;")
        self.wrong("state a;paper a;")
        self.wrong("state a;flag a;")
        self.wrong("state a;paper p;paper p;")
        self.wrong("state a;paper p;flag p;")
        self.wrong("flag p;state a;paper p;")
        self.wrong("state a;flag x;flag x;")
        self.wrong("paper p;state p;")


class Sentences(Cases):

    def test_empty(self):
        self.wrong("")
        self.wrong(";")

    def test_no_state(self):
        self.wrong("paper p;")
        self.wrong("flag x;")
        self.wrong("final z;")

    def test_first_is_final(self):
        self.wrong("final z;state a;")
        self.wrong("paper p;final z;state a;")
        self.right("paper p;flag x;state a;final z;")

    def test_semicolons(self):
        self.wrong("state a")
        self.wrong("state a;state b")
        self.wrong("state a;;")
        self.wrong(";state a;")
        self.wrong("state a;;state b;")
        self.wrong("state a state b;")
        self.wrong(EXAMPLE[:-1])

    def test_blanks(self):
        self.wrong("state  a;")
        self.wrong(" state a;")
        self.wrong("state a ;")
        self.wrong("state a; ")
        self.wrong("state a; state b;")
        self.wrong("state\ta;")
        self.wrong("state a;\n")
        self.wrong("state a\n;")
        self.wrong(HEAD + "from a on  p to b;")
        self.wrong(HEAD + "from a on p to b ;")
        self.wrong(HEAD + " from a on p to b;")

    def test_unknown_sentences(self):
        for sentence in ("a;", "states a;", "State a;", "STATE a;", "rule a;", "on p;", "to a;", "state b c;",
                         "state b c d;", "paper;", "flag f state g;"):
            self.wrong("state a;" + sentence)

    def test_names_behind_rules(self):
        rule = "from a on p to b;"
        for sentence in ("state c;", "final c;", "paper c;"):
            self.right(HEAD + sentence + rule)
            self.wrong(HEAD + rule + sentence)
        self.wrong("state a;paper p;from a on p to a;flag x;")

    def test_every_text_cut_short_is_wrong_or_ends_behind_a_semicolon(self):
        for end in range(len(EXAMPLE)):
            if EXAMPLE[:end].endswith(";"):
                self.right(EXAMPLE[:end])
            else:
                self.wrong(EXAMPLE[:end])


class Rules(Cases):

    def test_days(self):
        for begin in ("from a after", "from a on p within"):
            for number in range(1, 13):
                self.right(HEAD + f"{begin} {number} to b;")
            for number in ("0", "13", "01", "012", "00", "001", "1a", "+1", "-1", "20", "99", "111", "a", ""):
                self.wrong(HEAD + f"{begin} {number} to b;")

    def test_events(self):
        for number in range(1, 10):
            self.right(HEAD + f"from a on p to b tell {number};")
        for number in ("0", "10", "01", "09", "-1", "+1", "12", "x", ""):
            self.wrong(HEAD + f"from a on p to b tell {number};")

    def test_from_a_final_state(self):
        self.wrong(HEAD + "from z on p to a;")
        self.wrong(HEAD + "from z after 1 to z;")
        self.right(HEAD + "from a on p to z;")

    def test_names_of_the_right_kind(self):
        self.wrong(HEAD + "from c on p to b;")
        self.wrong(HEAD + "from p on p to b;")
        self.wrong(HEAD + "from x on p to b;")
        self.wrong(HEAD + "from a on r to b;")
        self.wrong(HEAD + "from a on b to b;")
        self.wrong(HEAD + "from a on x to b;")
        self.wrong(HEAD + "from a on p to c;")
        self.wrong(HEAD + "from a on p to q;")
        self.wrong(HEAD + "from a on p to x;")
        self.wrong(HEAD + "from a on 1 to b;")
        self.wrong(HEAD + "from a after p to b;")

    def test_signs(self):
        for signs in ("+x", "-x", "+y", "-y", "+x+y", "+x-y", "-x+y", "-x-y"):
            self.right(HEAD + f"from a on p if {signs} to b;")
            self.right(HEAD + f"from a on p to b then {signs};")
            self.right(HEAD + f"from a after 2 if {signs} to b then {signs};")
        for signs in ("+y+x", "-y+x", "+x+x", "+x-x", "-y-y", "+x+y+x", "x", "x+y", "+", "-", "", "+xy", "+x y",
                      "+x +y", "++x", "+x+", "+-x", "+x,+y", "+a", "+p", "+z", "+q-x", "+1", "1", "*x", "+x;"):
            self.wrong(HEAD + f"from a on p if {signs} to b;")
            self.wrong(HEAD + f"from a on p to b then {signs};")

    def test_signs_of_names_that_begin_alike(self):
        head = "state a;paper p;flag xx;flag x;"
        self.right(head + "from a on p if +xx-x to a;")
        self.right(head + "from a on p if -x to a;")
        self.wrong(head + "from a on p if +x-xx to a;")
        self.wrong(head + "from a on p if +xxx to a;")

    def test_signs_without_flags(self):
        self.wrong("state a;paper p;from a on p if +x to a;")
        self.wrong("state a;paper p;from a on p to a then +x;")

    def test_order_of_the_parts(self):
        for rule in (
            "on p from a to b", "from a to b", "from a to b on p", "from a on p", "from a after 2", "from a",
            "from a on p if +x within 2 to b", "from a on p to b within 2", "from a within 2 on p to b",
            "from a on p to b if +x", "from a on p then +x to b", "from a on p to b tell 1 then +x",
            "from a on p tell 1 to b", "from a after 2 within 3 to b", "from a within 2 to b",
            "from a on p after 2 to b", "from a after 2 on p to b", "from a if +x on p to b",
            "from a if +x after 2 to b", "to b from a on p", "on p to b", "after 2 to b", "to b", "on p within 2 to b",
        ):
            self.wrong(HEAD + rule + ";")

    def test_parts_twice(self):
        for rule in (
            "from a from a on p to b", "from a on p on q to b", "from a on p within 2 within 2 to b",
            "from a on p if +x if +y to b", "from a on p to b to b", "from a on p to b then +x then +y",
            "from a on p to b tell 1 tell 1", "from a after 2 after 2 to b",
        ):
            self.wrong(HEAD + rule + ";")

    def test_words_left_over(self):
        for rule in ("from a on p to b b", "from a on p to", "from a on p to b tell", "from a on p to b then",
                     "from a on p within to b", "from a on p if to b", "from a on to b", "from on p to b",
                     "from a on p to b x", "from a on p to b not x", "a on p to b", "from a on p to b tell 1 2"):
            self.wrong(HEAD + rule + ";")


class Configurations(Cases):

    def test_a_hundred(self):
        self.assertEqual(last(text(0, HUNDRED)), [7, 100])

    def test_one_more(self):
        more = HUNDRED + "from a on s if -x-y to f;"
        self.assertEqual(ask(text(0, more), shown(0)), [[-7], [-8]])

    def test_many_more(self):
        many = HUNDRED.replace("within 3", "within 12")
        self.assertEqual(last(text(0, many)), [-7])
        self.assertEqual(last(text(1, many)), [-7])

    def test_not_right_comes_before_too_many(self):
        many = HUNDRED.replace("within 3", "within 12")
        self.assertEqual(last(text(0, many[:-1])), [-6])

    def test_states_that_cannot_be_reached_do_not_count(self):
        self.assertEqual(last(text(0, "state a;state b;final c;from b after 9 to c;")), [1, 11])

    def test_ages_up_to_the_cap(self):
        self.assertEqual(last(text(0, "state a;paper p;from a on p within 12 to a;")), [1, 14])
        self.assertEqual(last(text(0, "state a;paper p;from a on p within 1 to a;")), [1, 3])
        self.assertEqual(last(text(0, "state a;from a after 12 to a;")), [1, 12])

    def test_a_final_state_counts_once_for_each_setting_of_the_flags(self):
        written = "state a;final z;paper p;paper q;flag x;from a on p to z;from a on q to z then +x;"
        self.assertEqual(last(text(0, written)), [2, 4])


class Places(Cases):

    def test_wrong_places(self):
        for k in (-1, 2, 3, LEAST, MOST):
            self.assertEqual(last(text(k, EXAMPLE)), [-1])
            self.assertEqual(last(text(k, "")), [-1])

    def test_numbers_that_are_no_bytes(self):
        for number in (-1, 256, 315, LEAST, MOST):
            for at in (0, 5, len(EXAMPLE)):
                row = codes(EXAMPLE)
                row.insert(at, number)
                self.assertEqual(ask(text(0, row), shown(0)), [[-1], [-8]])
            self.assertEqual(last(text(0, [number])), [-1])

    def test_bytes_that_no_text_has(self):
        for number in (0, 1, 10, 31, 33, 64, 96, 123, 127, 128, 255):
            self.assertEqual(last(text(0, [number])), [-6])
            self.assertEqual(last(text(0, codes(EXAMPLE) + [number])), [-6])

    def test_calls_stand_right_behind_a_text(self):
        self.assertEqual(
            ask(text(0, ""), text(0, [8, 0, 0]), text(0, "state a;"), sizes(0), text(1, ""), sizes(1)),
            [[-6], [-6], [0, 2], [1, 0, 0, 0, 1], [-6], [-8]],
        )

    def test_the_places_are_apart(self):
        self.assertEqual(
            ask(text(1, EXAMPLE), sizes(0), sizes(1), text(0, "state a;"), sizes(0), sizes(1)),
            [[3, 12], [-8], [4, 2, 1, 3, 5], [0, 2], [1, 0, 0, 0, 1], [4, 2, 1, 3, 5]],
        )

    def test_a_later_text_takes_the_place(self):
        self.assertEqual(
            ask(text(0, "state a;"), text(0, EXAMPLE), sizes(0))[1:],
            [[3, 12], [4, 2, 1, 3, 5]],
        )

    def test_place_0_closes_all_cases(self):
        rows = ask(
            text(0, DAILY), open_case(0), open_case(1), open_case(2), days(1), text(0, DAILY),
            state(0), state(1), state(2), log(0), paper(0, 0), days(1), open_case(0), log(0), state(0),
        )
        self.assertEqual(rows[4], [3, 0, 7, 1, 7, 2, 7])
        self.assertEqual(rows[5:], [[2, 1], [-8], [-8], [-8], [-8], [-8], [0], [0], [0], [0, 0, 0]])

    def test_place_1_leaves_the_cases(self):
        rows = ask(text(0, DAILY), open_case(1), days(2), text(1, "state a;"), state(1), log(1), days(1))
        self.assertEqual(rows[3:], [[0, 2], [0, 0, 0], [2, 7, 7], [1, 1, 7]])

    def test_a_refusal_changes_nothing(self):
        for refused, number in (
            (text(0, "state a"), -6), (text(0, ""), -6), (text(0, [256]), -1), (text(2, EXAMPLE), -1),
            (text(0, HUNDRED.replace("within 3", "within 4")), -7), (text(-1, ""), -1),
        ):
            rows = ask(
                text(0, DAILY), text(1, EXAMPLE), open_case(0), days(2), refused,
                shown(0), shown(1), log(0), days(1), state(1),
            )
            self.assertEqual(
                rows[4:],
                [[number], codes(DAILY), codes(EXAMPLE), [2, 7, 7], [1, 0, 7], [-8]],
            )


if __name__ == "__main__":
    unittest.main()

"""Made-up texts, each asked all questions, and the answers held against a plain second reading of the document.

The model knows nothing of the package: it reads texts by one pattern, carries whole rows of moves along, and asks
each question by its definition.
"""

import random
import re
import unittest

from tests.helper import (
    ask, clash, classes, days, drop, idle, log, open_case, paper, reach, same, sizes, state, stuck, text, toward, until,
    waiting,
)

RULE = re.compile(
    r"from (\w+)(?: on (\w+))?(?: after (\d+))?(?: within (\d+))?(?: if (\S+))? to (\w+)(?: then (\S+))?(?: tell (\d))?"
)


class Model:

    def __init__(self, written):
        sentences = written[:-1].split(";")
        named = [sentence.split(" ") for sentence in sentences if not sentence.startswith("from ")]
        self.states = [name for word, name in named if word in ("state", "final")]
        self.final = [word == "final" for word, name in named if word in ("state", "final")]
        self.papers = [name for word, name in named if word == "paper"]
        self.flags = [name for word, name in named if word == "flag"]
        self.rules = [self.rule(sentence) for sentence in sentences if sentence.startswith("from ")]
        self.moves = range(len(self.papers) + 1)
        self.cap = 1 + max([rule["after"] or rule["within"] or 0 for rule in self.rules] + [0])
        self.first = (0, 0, (0,) * len(self.flags))

    def rule(self, sentence):
        source, on, after, within, condition, target, changes, event = RULE.fullmatch(sentence).groups()
        return {
            "source": self.states.index(source), "move": 0 if on is None else self.papers.index(on) + 1,
            "after": after and int(after), "within": within and int(within), "if": self.signs(condition),
            "to": self.states.index(target), "then": self.signs(changes), "tell": int(event or 0),
        }

    def signs(self, word):
        return {self.flags.index(name): int(sign == "+") for sign, name in re.findall(r"([+-])(\w+)", word or "")}

    def answering(self, configuration, move):
        number, age, flags = configuration
        found = []
        for at, rule in enumerate(self.rules):
            fits = all(flags[flag] == up for flag, up in rule["if"].items())
            timely = rule["after"] == age + 1 if move == 0 else rule["within"] is None or age <= rule["within"]
            if rule["source"] == number and rule["move"] == move and fits and timely:
                found.append(at)
        return found

    def made(self, configuration, move):
        """The configuration behind the move, the event, the rule done plus 1."""
        number, age, flags = configuration
        if self.final[number]:
            return configuration, 0, 0
        found = self.answering(configuration, move)
        if found:
            rule = self.rules[found[0]]
            flags = tuple(rule["then"].get(flag, up) for flag, up in enumerate(flags))
            return (rule["to"], 0, flags), rule["tell"], found[0] + 1
        return (configuration if move else (number, min(age + 1, self.cap), flags)), 0, 0

    def sight(self, configuration, move):
        later, event, done = self.made(configuration, move)
        return event, self.final[later[0]]

    def rows(self, start):
        """For each configuration that can be reached from the start, the first row of moves to it."""
        rows = {start: ()}
        level = [start]
        while level:
            met = {}
            for configuration in level:
                for move in self.moves:
                    later = self.made(configuration, move)[0]
                    if later not in rows:
                        met[later] = min(rows[configuration] + (move,), met.get(later, (9,)))
            rows.update(met)
            level = list(met)
        return rows

    def reach(self, start, number):
        return way([row for met, row in self.rows(start).items() if met[0] == number])

    def stuck(self):
        rows = self.rows(self.first)
        return way([rows[met] for met in rows if not any(self.final[end[0]] for end in self.rows(met))])

    def clash(self):
        rows = self.rows(self.first)
        for met in sorted(rows, key=lambda met: (len(rows[met]), rows[met])):
            for move in self.moves:
                found = self.answering(met, move)
                if len(found) > 1 and not self.final[met[0]]:
                    return [1, found[0], found[1], move, len(rows[met]), *rows[met]]
        return [0]

    def idle(self):
        done = {self.made(met, move)[2] - 1 for met in self.rows(self.first) for move in self.moves}
        left = sorted(set(range(len(self.rules))) - done)
        return [len(left), *left]

    def classes(self):
        found = []
        for met in self.rows(self.first):
            if all(difference(self, met, self, other) for other in found):
                found.append(met)
        return [len(found)]

    def waiting(self, configuration):
        for passed in range(400):
            if self.final[configuration[0]]:
                return [1, passed]
            configuration = self.made(configuration, 0)[0]
        return [0]

    def until(self, configuration, i):
        found = []
        for day in range(101):
            if self.answering(configuration, i + 1):
                found.append(day)
            configuration = self.made(configuration, 0)[0]
        return [1, found[-1]] if found else [0]


def way(rows):
    if not rows:
        return [0]
    first = min(rows, key=lambda row: (len(row), row))
    return [1, len(first), *first]


def difference(one, start, other, second):
    """The first row of moves at whose last one sees different things, or None."""
    level = {(start, second): ()}
    known = set(level)
    while level:
        found, later = [], {}
        for pair, row in level.items():
            for move in one.moves:
                longer = row + (move,)
                met = (one.made(pair[0], move)[0], other.made(pair[1], move)[0])
                if one.sight(pair[0], move) != other.sight(pair[1], move):
                    found.append(longer)
                elif met not in known:
                    later[met] = min(longer, later.get(met, (9,)))
        if found:
            return min(found)
        known.update(later)
        level = later
    return None


def same_by(one, other):
    if len(one.papers) != len(other.papers):
        return [-5]
    if len(one.rows(one.first)) * len(other.rows(other.first)) > 1000:
        return [-7]
    row = difference(one, one.first, other, other.first)
    return [1] if row is None else [0, len(row), *row]


def signs(chance, flags):
    return "".join(chance.choice("+-") + flag for flag in flags if chance.random() < 0.6)


def made_up_rule(chance, sources, states, papers, flags, most):
    words = ["from", chance.choice(sources)]
    if papers and chance.random() < 0.7:
        words += ["on", chance.choice(papers)]
        if chance.random() < 0.4:
            words += ["within", str(chance.randint(1, most))]
    else:
        words += ["after", str(chance.randint(1, most))]
    condition, changes = signs(chance, flags), signs(chance, flags)
    if condition and chance.random() < 0.5:
        words += ["if", condition]
    words += ["to", chance.choice(states)]
    if changes and chance.random() < 0.6:
        words += ["then", changes]
    if chance.random() < 0.5:
        words += ["tell", str(chance.randint(1, 3))]
    return " ".join(words) + ";"


def made_up_text(chance):
    """A head, and rules few enough that both together have no more than 900 bytes."""
    states, papers, flags = "abcdef"[:chance.randint(1, 6)], "pqrs"[:chance.randint(0, 4)], "xy"[:chance.randint(0, 2)]
    finals = [name for name in states[1:] if chance.random() < 0.35]
    head = "".join(f"{'final' if name in finals else 'state'} {name};" for name in states)
    head += "".join(f"paper {name};" for name in papers) + "".join(f"flag {name};" for name in flags)
    sources = [name for name in states if name not in finals]
    most = chance.choice([1, 2, 3, 5, 12])
    count = chance.choice([0, 1, 2, 3, 5, 8, 11, 14])
    return head, [made_up_rule(chance, sources, states, papers, flags, most) for rule in range(count)]


def changed(chance, rules):
    """Rules that are nearly the same."""
    rules = list(rules)
    if rules and chance.random() < 0.4:
        rules.pop(chance.randrange(len(rules)))
    elif rules and chance.random() < 0.7:
        rules.append(rules.pop(chance.randrange(len(rules))))
    elif rules:
        at = chance.randrange(len(rules))
        rules[at] = re.sub(" tell .", "", rules[at])
    return rules


class AgainstModel(unittest.TestCase):

    def test_made_up_texts(self):
        for seed in range(150):
            chance = random.Random(seed)
            head, rules = made_up_text(chance)
            other = changed(chance, rules) if seed % 3 else made_up_text(chance)
            one, second = head + "".join(rules), head + "".join(other) if seed % 3 else other[0] + "".join(other[1])
            with self.subTest(seed=seed, one=one, second=second):
                self.places(one, second)
                self.case(chance, one)
                self.dropped(chance, head, rules)

    def fits(self, model):
        return len(model.rows(model.first)) <= 100

    def places(self, one, second):
        model, other = Model(one), Model(second)
        if not self.fits(model) or not self.fits(other):
            return
        rows = ask(text(0, one), text(1, second), sizes(0), stuck(0), clash(0), idle(0), classes(0), same(),
                   *[reach(0, s) for s in range(len(model.states))])
        self.assertEqual(rows[0], [len(model.rules), len(model.rows(model.first))])
        self.assertEqual(rows[2][4], model.cap)
        self.assertEqual(rows[3:7], [model.stuck(), model.clash(), model.idle(), model.classes()])
        self.assertEqual(rows[7], same_by(model, other))
        self.assertEqual(rows[8:], [model.reach(model.first, s) for s in range(len(model.states))])

    def case(self, chance, one):
        model = Model(one)
        if not self.fits(model):
            self.assertEqual(ask(text(0, one)), [[-7]])
            return
        calls, expected = [text(0, one), open_case(0)], []
        configuration, told = model.first, []
        for step in range(3):
            for move in chance.choices(model.moves, k=chance.randint(0, 4)):
                configuration, event, done = model.made(configuration, move)
                told += [event] if event else []
                calls.append(paper(0, move - 1) if move else days(1))
                expected.append([event, done] if move else [1, 0, event] if event else [0])
            calls += [state(0), log(0), waiting(0)] + [until(0, i) for i in range(len(model.papers))]
            calls += [toward(0, s) for s in range(len(model.states))]
            number, age, flags = configuration
            expected += [[number, age, int(model.final[number]), *flags], [len(told), *told]]
            expected += [model.waiting(configuration)]
            expected += [model.until(configuration, i) for i in range(len(model.papers))]
            expected += [model.reach(configuration, s) for s in range(len(model.states))]
        self.assertEqual(ask(*calls)[2:], expected)

    def dropped(self, chance, head, rules):
        if not rules or not self.fits(Model(head + "".join(rules))):
            return
        i = chance.randrange(len(rules))
        model = Model(head + "".join(rules[:i] + rules[i + 1:]))
        expected = [len(rules) - 1, len(model.rows(model.first))] if self.fits(model) else [-7]
        self.assertEqual(ask(text(1, head + "".join(rules)), drop(1, i))[1], expected)


if __name__ == "__main__":
    unittest.main()

"""From the bytes of a text to its procedure."""

from officeways.procedure import DAY_ENDS, MOST_FLAGS, MOST_PAPERS, MOST_RULES, MOST_STATES, Procedure, Rule
from officeways.refusals import NotRight

MOST_DAYS = 12
MOST_EVENT = 9
MOST_LETTERS = 8

LETTERS = "abcdefghijklmnopqrstuvwxyz"
SIGNS_OF_TEXTS = " +-0123456789;abcdefghijklmnopqrstuvwxyz"
LISTED_WORDS = (
    "state", "final", "paper", "flag", "from", "on", "after", "within", "if", "to", "then", "tell",
)

PAPER_RULE = ("from", "on", "within", "if", "to", "then", "tell")
TIME_RULE = ("from", "after", "if", "to", "then", "tell")


class Draft:
    """What has been read of a text so far."""

    def __init__(self):
        self.states = []
        self.finals = []
        self.papers = []
        self.flags = []
        self.rules = []


def written_text(codes):
    """The bytes as a text; a byte that no right text has is refused here."""
    known = {}
    for sign in SIGNS_OF_TEXTS:
        known[ord(sign)] = sign
    signs = []
    for code in codes:
        if code not in known:
            raise NotRight()
        signs.append(known[code])
    return "".join(signs)


def sentences_of(text):
    if not text.endswith(";"):
        raise NotRight()
    return text[:-1].split(";")


def pairs_of(sentence):
    """Every sentence is a row of pairs: a listed word, and what stands behind it."""
    words = sentence.split(" ")
    if len(words) % 2 != 0:
        raise NotRight()
    return [(words[at], words[at + 1]) for at in range(0, len(words), 2)]


def check_new_name(draft, name):
    if len(name) < 1 or len(name) > MOST_LETTERS or name in LISTED_WORDS:
        raise NotRight()
    for sign in name:
        if sign not in LETTERS:
            raise NotRight()
    if name in draft.states or name in draft.papers or name in draft.flags:
        raise NotRight()


def add_within(names, name, most):
    if len(names) >= most:
        raise NotRight()
    names.append(name)


def read_naming(draft, word, name):
    """Take a sentence that names a state, a final, a paper or a flag."""
    if len(draft.rules) > 0:
        raise NotRight()
    check_new_name(draft, name)
    if word == "paper":
        add_within(draft.papers, name, MOST_PAPERS)
    elif word == "flag":
        add_within(draft.flags, name, MOST_FLAGS)
    elif word == "final" and len(draft.states) == 0:
        raise NotRight()
    else:
        add_within(draft.states, name, MOST_STATES)
        draft.finals.append(word == "final")


def place_of(names, name):
    if name not in names:
        raise NotRight()
    return names.index(name)


def number_of(word, most):
    """A number from 1 to most; comparing with the one way to write it keeps zeros in front out."""
    for number in range(1, most + 1):
        if word == str(number):
            return number
    raise NotRight()


def signs_of(word, flags):
    """The pairs of flag and 1 (up) or 0 (down) that a word of signs tells."""
    pieces = word.replace("+", " +").replace("-", " -").split(" ")
    if pieces[0] != "" or len(pieces) < 2:
        raise NotRight()
    signs = []
    least = 0
    for piece in pieces[1:]:
        flag = place_of(flags, piece[1:])
        if flag < least:
            raise NotRight()
        signs.append((flag, 1 if piece[0] == "+" else 0))
        least = flag + 1
    return signs


def parts_of(pairs):
    """A rule's parts by their words, if they stand in a rule's order and none that it needs is missing."""
    words = [word for word, told in pairs]
    order = PAPER_RULE if "on" in words else TIME_RULE
    if words != [word for word in order if word in words]:
        raise NotRight()
    for word in (order[0], order[1], "to"):
        if word not in words:
            raise NotRight()
    return dict(pairs)


def days_of(parts):
    """The days that a rule's parts tell, 0 if none."""
    for word in ("after", "within"):
        if word in parts:
            return number_of(parts[word], MOST_DAYS)
    return 0


def rule_of(draft, parts):
    source = place_of(draft.states, parts["from"])
    if draft.finals[source]:
        raise NotRight()
    move = place_of(draft.papers, parts["on"]) + 1 if "on" in parts else DAY_ENDS
    days = days_of(parts)
    condition = signs_of(parts["if"], draft.flags) if "if" in parts else []
    target = place_of(draft.states, parts["to"])
    changes = signs_of(parts["then"], draft.flags) if "then" in parts else []
    event = number_of(parts["tell"], MOST_EVENT) if "tell" in parts else 0
    return Rule(source, move, days, condition, target, changes, event)


def read_rule(draft, pairs):
    if len(draft.rules) >= MOST_RULES:
        raise NotRight()
    draft.rules.append(rule_of(draft, parts_of(pairs)))


def read_sentence(draft, sentence):
    pairs = pairs_of(sentence)
    word = pairs[0][0]
    if word in ("state", "final", "paper", "flag"):
        if len(pairs) != 1:
            raise NotRight()
        read_naming(draft, word, pairs[0][1])
    else:
        read_rule(draft, pairs)


def procedure_of(codes):
    """The procedure that the bytes of a right text tell."""
    draft = Draft()
    for sentence in sentences_of(written_text(codes)):
        read_sentence(draft, sentence)
    if len(draft.states) == 0:
        raise NotRight()
    return Procedure(draft.states, draft.finals, draft.papers, draft.flags, draft.rules)

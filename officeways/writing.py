"""From a procedure to the bytes of its one form."""

from officeways.procedure import DAY_ENDS


def signs_text(signs, flags):
    pieces = []
    for flag, up in signs:
        pieces.append("+" if up == 1 else "-")
        pieces.append(flags[flag])
    return "".join(pieces)


def trigger_words(procedure, rule):
    """The words that tell what a rule waits for."""
    if rule.move == DAY_ENDS:
        return ["after", str(rule.days)]
    words = ["on", procedure.papers[rule.move - 1]]
    if rule.days > 0:
        words.extend(["within", str(rule.days)])
    return words


def rule_sentence(procedure, rule):
    words = ["from", procedure.states[rule.source]]
    words.extend(trigger_words(procedure, rule))
    if len(rule.condition) > 0:
        words.extend(["if", signs_text(rule.condition, procedure.flags)])
    words.extend(["to", procedure.states[rule.target]])
    if len(rule.changes) > 0:
        words.extend(["then", signs_text(rule.changes, procedure.flags)])
    if rule.event > 0:
        words.extend(["tell", str(rule.event)])
    return " ".join(words)


def sentences_in_form(procedure):
    sentences = []
    for state, name in enumerate(procedure.states):
        word = "final" if procedure.finals[state] else "state"
        sentences.append(f"{word} {name}")
    for name in procedure.papers:
        sentences.append(f"paper {name}")
    for name in procedure.flags:
        sentences.append(f"flag {name}")
    for rule in procedure.rules:
        sentences.append(rule_sentence(procedure, rule))
    return sentences


def one_form(procedure):
    """The bytes of the one form."""
    codes = []
    for sentence in sentences_in_form(procedure):
        codes.extend([ord(sign) for sign in sentence])
        codes.append(ord(";"))
    return codes

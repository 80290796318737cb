"""Texts of rules, and the reading of them."""

from seldomflip.errors import ParseError
from seldomflip.text.words import log_text, read_log

# what binds closer has a greater number
RANKS = {"or": 0, "and": 1, "not": 2, "occurs": 3}


def rule_text(rule):
    """The text of a rule."""
    if rule[0] == "occurs":
        return log_text(rule[1])
    parts = []
    for part in rule[1:]:
        # a rule stands in parentheses in what binds as close or closer
        text = rule_text(part)
        parts.append(text if RANKS[part[0]] > RANKS[rule[0]] else f"({text})")
    if rule[0] == "not":
        return f"!{parts[0]}"
    return " | ".join(parts) if rule[0] == "or" else " & ".join(parts)


def depths_of(text):
    """How many parentheses are open behind each character."""
    found = []
    deep = 0
    for character in text:
        if character == "(":
            deep += 1
        if character == ")":
            deep -= 1
        found.append(deep)
    return found


def pieces_of(text, sign):
    """The pieces of the text between the signs that stand outside of all parentheses."""
    found = []
    begin = 0
    for at, deep in enumerate(depths_of(text)):
        if deep == 0 and text[at:at + len(sign)] == sign:
            found.append(text[begin:at])
            begin = at + len(sign)
    return found + [text[begin:]]


def read_rule(letters, text, levels):
    """What the text could stand for, nested at most so deep; whether it does, its own text tells."""
    if levels == 0:
        raise ParseError("a rule is nested at most 20 deep")
    for word, sign in (("or", " | "), ("and", " & ")):
        pieces = pieces_of(text, sign)
        if len(pieces) > 1:
            return (word,) + tuple([read_part(letters, piece, levels - 1) for piece in pieces])
    if text[:1] == "!":
        return ("not", read_part(letters, text[1:], levels - 1))
    return ("occurs", read_log(letters, text))


def is_enclosed(text):
    """Whether the text begins with a parenthesis that the last character of the text closes."""
    depths = depths_of(text)
    return text[:1] == "(" and 0 in depths and depths.index(0) == len(text) - 1


def read_part(letters, text, levels):
    """The same for a text that stands in another one."""
    if is_enclosed(text):
        return read_rule(letters, text[1:-1], levels)
    return read_rule(letters, text, levels)

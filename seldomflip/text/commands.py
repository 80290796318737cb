"""The reading of commands of a shell."""

from seldomflip.base.checks import is_name
from seldomflip.base.logs import is_letters
from seldomflip.errors import ParseError
from seldomflip.text.formats import parse_judge, parse_rule
from seldomflip.text.words import is_number_text

# the kinds of words behind the first one, for each number of words that may stand there
FORMS = {
    "monitor": (("name", "name"), ("name", "name", "name")),
    "tell": (("name", "number", "name"), ("name", "number", "name", "number")),
    "close": (("name", "number"),),
    "back": (("name", "number"),),
    "again": (("name", "number"),),
    "drop": (("name",),),
    "names": ((),),
    "show": (("name",),),
    "verdict": (("name", "word"),),
    "number": (("name",),),
    "height": (("name", "name"),),
    "tower": (("name", "name"),),
    "swing": (("name",),),
    "ladder": (("name", "name"),),
    "ask": (("name",),),
    "turn": (("name",),)}


def is_of_kind(kind, word):
    """Whether the word is a name, a number or any word, as the kind tells."""
    if kind == "name":
        return is_name(word)
    return kind == "word" or is_number_text(word)


def read_judge(words):
    """The name and the judge of a command that puts in a judge."""
    return words[0], parse_judge("\n".join(" ".join(words[1:]).split(" / ")))


def read_rule_of(words):
    """The name, the letters and the rule of a command that puts in the judge of a rule."""
    if ":" not in words:
        raise ParseError("the letters of a rule end with a colon")
    at = words.index(":")
    letters = tuple(words[1:at])
    if not is_letters(letters):
        raise ParseError("a rule has letters")
    return words[0], letters, parse_rule(letters, " ".join(words[at + 1:]))


def read_command(line):
    """The first word of a command, and what follows it, as a tuple."""
    if not isinstance(line, str) or "\n" in line:
        raise ParseError("a command is a line")
    parts = line.split(" ")
    word = parts[0]
    words = parts[1:]
    if word in ("judge", "rule"):
        if not words or not is_name(words[0]):
            raise ParseError("a name is needed")
        return word, read_judge(words) if word == "judge" else read_rule_of(words)
    for form in FORMS.get(word, ()):
        if len(form) == len(words) and "" not in words:
            if all([is_of_kind(kind, told) for kind, told in zip(form, words)]):
                return word, tuple([int(told) if kind == "number" else told for kind, told in zip(form, words)])
    raise ParseError("this is no command")

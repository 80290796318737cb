"""The reading of texts of ladders."""

from seldomflip.base.checks import is_name
from seldomflip.base.logs import minimal_of
from seldomflip.errors import InvalidLadder, ParseError, TooMany
from seldomflip.text.words import read_log
from seldomflip.towers.ladders import Ladder


def read_answers(line):
    """The two answers of the first line."""
    words = line.split(" ")
    if len(words) != 3 or words[0] != "ladder" or not is_name(words[1]) or not is_name(words[2]):
        raise ParseError("the first line of a ladder tells its answers")
    return words[1], words[2]


def read_rung(letters, line, answer):
    """The minimal logs that the line of a rung with this answer tells."""
    begin = f"{answer} if "
    if not line.startswith(begin):
        raise ParseError("a line tells the answer of a rung")
    logs = tuple([read_log(letters, part) for part in line[len(begin):].split(" or ")])
    if minimal_of(logs) != logs:
        raise ParseError("the minimal logs of a rung stand in order")
    return logs


def read_ladder(letters, text):
    """The ladder with this text."""
    lines = text.split("\n")
    first, second = read_answers(lines[0])
    lists = [read_rung(letters, line, first if at & 1 else second) for at, line in enumerate(lines[1:])]
    try:
        ladder = Ladder.listing(letters, first, second, tuple(lists))
    except (InvalidLadder, TooMany):
        raise ParseError("there is no such ladder") from None
    return ladder

"""Texts of logs and numbers, for values that are known to be right, and the reading of them."""

from seldomflip.errors import ParseError
from seldomflip.sets.machines import is_log_over

MAX_DIGITS = 10


def log_text(log):
    """The text of a log of any length."""
    return ".".join(log) if log != () else "-"


def logs_text(logs):
    """The text of a tuple of logs of any length."""
    return " < ".join([log_text(log) for log in logs]) if logs != () else "no logs"


def check_text(value):
    """Refuses what is no string."""
    if not isinstance(value, str):
        raise ParseError("a text is needed")


def read_log(letters, text):
    """The log of the letters with this text."""
    log = () if text == "-" else tuple(text.split("."))
    if not is_log_over(letters, log):
        raise ParseError("this is no text of a log")
    return log


def is_number_text(text):
    """Whether the text is a number of at most ten digits without leading zeros."""
    if not text.isascii() or not text.isdigit() or len(text) > MAX_DIGITS:
        return False
    return text == "0" or text[0] != "0"


def read_number(text):
    """The number with this text."""
    if not is_number_text(text):
        raise ParseError("this is no number")
    return int(text)

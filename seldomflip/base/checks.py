"""What plain values are: integers, names, rows in order."""

from seldomflip.errors import InvalidNumber, NothingToUndo

MAX_SIGNS = 8


def is_whole(value):
    """Whether the value is an integer; booleans are none."""
    return isinstance(value, int) and not isinstance(value, bool)


def is_name(value):
    """Whether the value is a string of one to eight characters a to z."""
    if not isinstance(value, str) or len(value) > MAX_SIGNS:
        return False
    return value.isascii() and value.isalpha() and value.islower()


def is_ascending(row):
    """Whether each item of the row is less than the next one."""
    return all([one < other for one, other in zip(row, row[1:])])


def check_number(value, least, most):
    """Refuses what is no integer from the least to the most."""
    if not is_whole(value) or not least <= value <= most:
        raise InvalidNumber(value)


def check_many(value, most):
    """Refuses what is no integer of at least 0, and more steps than can be undone."""
    if not is_whole(value) or value < 0:
        raise InvalidNumber(value)
    if value > most:
        raise NothingToUndo(value)

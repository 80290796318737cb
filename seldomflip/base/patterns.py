"""Patterns of logs, which logs are alike, and the steps between them."""

from seldomflip.base.checks import check_number, is_whole
from seldomflip.base.logs import MAX_EVENTS, check_log, is_any_log
from seldomflip.base.steps import both_numbers, log_behind_all, steps_to_first, straightened, thinned
from seldomflip.base.ways import is_below, next_places
from seldomflip.errors import InvalidNumber, InvalidOperation

NEAR = 8


def check_bound(k):
    """Refuses what is no integer from 0 to 200."""
    check_number(k, 0, MAX_EVENTS)


def check_longest(longest):
    """Refuses what is neither None nor an integer of at least 0."""
    if longest is not None and (not is_whole(longest) or longest < 0):
        raise InvalidNumber(longest)


def greatest_length(log, longest):
    """The length of the longest patterns that count."""
    return len(log) if longest is None else min(len(log), longest)


def place_up_to(places, begin, last):
    """The first of the places, from the index begin on, that is not behind the last; or None."""
    for place in places[begin:]:
        if place <= last:
            return place
    return None


def least_way(rows, begun, length):
    """The first places of the least pattern of this length that begins with those."""
    way = list(begun)
    while len(way) < length:
        begin = way[-1] + 1 if way else 0
        # enough events must be left behind the place for the rest of the pattern
        last = len(rows) - 1 - (length - len(way))
        way.append(place_up_to(rows[begin], 0, last))
    return way


def way_behind(rows, ranks, way):
    """The first places of the next pattern of the same length, or None."""
    for at in reversed(range(len(way))):
        begin = way[at - 1] + 1 if at > 0 else 0
        last = len(rows) - 1 - (len(way) - at)
        place = place_up_to(rows[begin], ranks[way[at]] + 1, last)
        if place is not None:
            return least_way(rows, way[:at] + [place], len(way))
    return None


def patterns(log, *, longest=None):
    """Yields the patterns of the log, each once, in the order of logs."""
    check_log(log)
    check_longest(longest)
    letters = sorted(set(log))
    ranks = [letters.index(event) for event in log]
    rows = next_places(log, letters)
    for length in range(greatest_length(log, longest) + 1):
        way = least_way(rows, [], length)
        while way is not None:
            yield tuple([log[at] for at in way])
            way = way_behind(rows, ranks, way)


def number_of_patterns(log, *, longest=None):
    """The number of the patterns of the log."""
    check_log(log)
    check_longest(longest)
    size = greatest_length(log, longest) + 1
    counts = [1] + [0] * (size - 1)
    before = {}
    for event in log:
        # a pattern that ends with this event may have ended with the same event before
        known = before.get(event, [0] * size)
        before[event] = counts
        counts = [1] + [counts[at] + counts[at - 1] - known[at - 1] for at in range(1, size)]
    return sum(counts)


def read_back(came, pair):
    """The letters on the way to the pair, from the first one on."""
    letters = []
    while came[pair] is not None:
        pair, letter = came[pair]
        letters.append(letter)
    return tuple(letters[::-1])


def raise_near(places, begin, place):
    """Raises the places, from the index begin on to a few more, up to the first one that is not less."""
    end = min(len(places), begin + NEAR)
    while begin < end and places[begin] < place:
        places[begin] = place
        begin += 1


def first_parting(log, other, longest):
    """The first log, of at most so many events, that is a pattern of exactly one of them, or None.

    Pairs of places in both logs stand in the order of the first logs that reach them. What goes on from
    a pair and is a pattern of the log alone does so from each pair that is no later in the log and no
    earlier in the other one, too. So a pair is left out if such a one stands ahead of it, and such a
    one with the logs exchanged. They are looked for near the pair only, where most of them are.
    """
    if log == other:
        return None
    letters = sorted(set(log + other))
    rows = next_places(log, letters)
    columns = next_places(other, letters)
    # for each place a latest one in the other log beside this place or an earlier one
    latest = [0] * (len(log) + 1)
    other_latest = [0] * (len(other) + 1)
    pairs = [(0, 0)]
    lengths = [0]
    came = {(0, 0): None}
    at = 0
    while at < len(pairs) and lengths[at] < longest:
        pair = pairs[at]
        for letter, one, two in zip(letters, rows[pair[0]], columns[pair[1]]):
            if (one == len(log)) != (two == len(other)):
                return read_back(came, pair) + (letter,)
            following = (one + 1, two + 1)
            if one < len(log) and (latest[one + 1] <= two or other_latest[two + 1] <= one):
                raise_near(latest, one + 1, two + 1)
                raise_near(other_latest, two + 1, one + 1)
                came[following] = (pair, letter)
                pairs.append(following)
                lengths.append(lengths[at] + 1)
        at += 1
    return None


def parting(log, other):
    """The first log that is a pattern of exactly one of them, or None if they are equal."""
    check_log(log)
    check_log(other)
    # the longer one of two different logs, or each one, is a pattern of one of them only
    return first_parting(log, other, MAX_EVENTS)


def alike(log, other):
    """The greatest k up to which they are alike, or None if they are equal."""
    found = parting(log, other)
    return None if found is None else len(found) - 1


def is_alike(log, other, k):
    """Whether they are alike up to k."""
    check_log(log)
    check_log(other)
    check_bound(k)
    return first_parting(log, other, k) is None


def left_numbers(log):
    """The left numbers of all positions."""
    check_log(log)
    left, _ = both_numbers(log)
    return tuple(left)


def right_numbers(log):
    """The right numbers of all positions."""
    check_log(log)
    _, right = both_numbers(log)
    return tuple(right)


def is_allowed(log, k, value):
    """Whether the value is an allowed step for the log and k."""
    check_log(log)
    check_bound(k)
    return log_behind_all(log, k, (value,)) is not None


def after_steps(log, k, *steps):
    """The log behind the steps."""
    check_log(log)
    check_bound(k)
    found = log_behind_all(log, k, steps)
    if found is None:
        raise InvalidOperation("a step is not allowed for the log behind the steps before it")
    return found


def first_alike(log, k):
    """The first log that is alike to the log up to k."""
    check_log(log)
    check_bound(k)
    short, _ = thinned(log, k)
    return straightened(short, k)


def alike_paper(log, other, k):
    """A paper that they are alike up to k, or that they are not."""
    check_log(log)
    check_log(other)
    check_bound(k)
    pattern = first_parting(log, other, k)
    if pattern is not None:
        return ("parted", pattern)
    return ("alike", steps_to_first(log, k), steps_to_first(other, k))


def is_meeting(log, other, k, taken, other_taken):
    """Whether these are allowed steps of both logs that lead to one log."""
    if not isinstance(taken, tuple) or not isinstance(other_taken, tuple):
        return False
    end = log_behind_all(log, k, taken)
    return end is not None and end == log_behind_all(other, k, other_taken)


def is_parting(log, other, k, value):
    """Whether the value is a log of at most k events that is a pattern of exactly one of them."""
    if not is_any_log(value) or len(value) > k:
        return False
    return is_below(value, log) != is_below(value, other)


def is_alike_paper(log, other, k, value):
    """Whether the value is a paper that they are alike up to k, or that they are not."""
    check_log(log)
    check_log(other)
    check_bound(k)
    if not isinstance(value, tuple):
        return False
    if len(value) == 3 and value[0] == "alike":
        return is_meeting(log, other, k, value[1], value[2])
    return len(value) == 2 and value[0] == "parted" and is_parting(log, other, k, value[1])

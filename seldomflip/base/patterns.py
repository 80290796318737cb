"""Patterns of logs, which logs are alike, and the steps between them."""

from seldomflip.base.checks import check_number, is_whole
from seldomflip.base.logs import MAX_EVENTS, check_log, is_any_log
from seldomflip.base.ways import is_below, next_places
from seldomflip.errors import InvalidNumber, InvalidOperation


def check_bound(k):
    """Refuses what is no integer from 0 to 200."""
    check_number(k, 0, MAX_EVENTS)


def check_longest(longest):
    """Refuses what is neither None nor an integer of at least 0."""
    if longest is not None and (not is_whole(longest) or longest < 0):
        raise InvalidNumber(longest)


def greatest_length(log, longest):
    """The length of the longest patterns that count."""
    return len(log) if longest is None else min(len(log), longest)


def place_up_to(places, begin, last):
    """The first of the places, from the index begin on, that is not behind the last; or None."""
    for place in places[begin:]:
        if place <= last:
            return place
    return None


def least_way(rows, begun, length):
    """The first places of the least pattern of this length that begins with those."""
    way = list(begun)
    while len(way) < length:
        begin = way[-1] + 1 if way else 0
        # enough events must be left behind the place for the rest of the pattern
        last = len(rows) - 1 - (length - len(way))
        way.append(place_up_to(rows[begin], 0, last))
    return way


def way_behind(rows, ranks, way):
    """The first places of the next pattern of the same length, or None."""
    for at in reversed(range(len(way))):
        begin = way[at - 1] + 1 if at > 0 else 0
        last = len(rows) - 1 - (len(way) - at)
        place = place_up_to(rows[begin], ranks[way[at]] + 1, last)
        if place is not None:
            return least_way(rows, way[:at] + [place], len(way))
    return None


def patterns(log, *, longest=None):
    """Yields the patterns of the log, each once, in the order of logs."""
    check_log(log)
    check_longest(longest)
    letters = sorted(set(log))
    ranks = [letters.index(event) for event in log]
    rows = next_places(log, letters)
    for length in range(greatest_length(log, longest) + 1):
        way = least_way(rows, [], length)
        while way is not None:
            yield tuple([log[at] for at in way])
            way = way_behind(rows, ranks, way)


def number_of_patterns(log, *, longest=None):
    """The number of the patterns of the log."""
    check_log(log)
    check_longest(longest)
    size = greatest_length(log, longest) + 1
    counts = [1] + [0] * (size - 1)
    before = {}
    for event in log:
        # a pattern that ends with this event may have ended with the same event before
        known = before.get(event, [0] * size)
        before[event] = counts
        counts = [1] + [counts[at] + counts[at - 1] - known[at - 1] for at in range(1, size)]
    return sum(counts)


def read_back(came, pair):
    """The letters on the way to the pair, from the first one on."""
    letters = []
    while came[pair] is not None:
        pair, letter = came[pair]
        letters.append(letter)
    return tuple(letters[::-1])


def first_parting(log, other):
    """The first log that is a pattern of exactly one of them, or None."""
    letters = sorted(set(log + other))
    rows = next_places(log, letters)
    columns = next_places(other, letters)
    # the first logs reach their pairs of places first, as the pairs stand in the order of logs
    pairs = [(0, 0)]
    came = {(0, 0): None}
    at = 0
    while at < len(pairs):
        pair = pairs[at]
        at += 1
        for letter, one, two in zip(letters, rows[pair[0]], columns[pair[1]]):
            if (one == len(log)) != (two == len(other)):
                return read_back(came, pair) + (letter,)
            following = (one + 1, two + 1)
            if one < len(log) and following not in came:
                came[following] = (pair, letter)
                pairs.append(following)
    return None


def parting(log, other):
    """The first log that is a pattern of exactly one of them, or None if they are equal."""
    check_log(log)
    check_log(other)
    return first_parting(log, other)


def alike(log, other):
    """The greatest k up to which they are alike, or None if they are equal."""
    found = parting(log, other)
    return None if found is None else len(found) - 1


def is_alike(log, other, k):
    """Whether they are alike up to k."""
    check_log(log)
    check_log(other)
    check_bound(k)
    found = first_parting(log, other)
    return found is None or len(found) > k


def number_from(numbers, place):
    """The left number of an event behind the numbered ones that was last at this place, or nowhere."""
    return 1 if place is None else 1 + min(numbers[place:])


def numbered(log):
    """The left numbers of the log, and the last place of each event."""
    numbers = []
    places = {}
    for at, event in enumerate(log):
        numbers.append(number_from(numbers, places.get(event)))
        places[event] = at
    return numbers, places


def numbers_behind(log, letters):
    """The left number that each of the letters would have behind the log."""
    numbers, places = numbered(log)
    return [number_from(numbers, places.get(letter)) for letter in letters]


def both_numbers(log):
    """The left numbers and the right numbers of all positions."""
    left, _ = numbered(log)
    # what stands last in the log stands first in the reversed one
    right, _ = numbered(log[::-1])
    return left, right[::-1]


def left_numbers(log):
    """The left numbers of all positions."""
    check_log(log)
    left, _ = both_numbers(log)
    return tuple(left)


def right_numbers(log):
    """The right numbers of all positions."""
    check_log(log)
    _, right = both_numbers(log)
    return tuple(right)


def is_step(log, value):
    """Whether the value is a step for the log, allowed or not."""
    if not isinstance(value, tuple) or len(value) != 2 or not is_whole(value[1]):
        return False
    kind, at = value
    if kind == "out":
        return 0 <= at < len(log)
    return kind == "turn" and 0 <= at < len(log) - 1 and log[at] != log[at + 1]


def keeps_alike(log, k, step):
    """Whether the log behind the step is alike to the log up to k."""
    kind, at = step
    width = 1 if kind == "out" else 2
    moved = log[at:at + width]
    left = numbers_behind(log[:at], moved)
    right = numbers_behind(log[at + width:][::-1], moved)
    if kind == "out":
        return left[0] + right[0] > k + 1
    # the second sum is that in the result, where the events have changed places
    return left[0] + right[1] > k and left[1] + right[0] > k


def log_behind_step(log, step):
    """The log behind a step."""
    kind, at = step
    if kind == "out":
        return log[:at] + log[at + 1:]
    return log[:at] + (log[at + 1], log[at]) + log[at + 2:]


def log_behind_all(log, k, taken):
    """The log behind the steps, or None if one of them is not allowed."""
    for step in taken:
        if not is_step(log, step) or not keeps_alike(log, k, step):
            return None
        log = log_behind_step(log, step)
    return log


def is_allowed(log, k, value):
    """Whether the value is an allowed step for the log and k."""
    check_log(log)
    check_bound(k)
    return is_step(log, value) and keeps_alike(log, k, value)


def after_steps(log, k, *steps):
    """The log behind the steps."""
    check_log(log)
    check_bound(k)
    found = log_behind_all(log, k, steps)
    if found is None:
        raise InvalidOperation("a step is not allowed for the log behind the steps before it")
    return found


def place_to_leave_out(log, k):
    """The first position that can be left out, or None."""
    left, right = both_numbers(log)
    for at in range(len(log)):
        if left[at] + right[at] > k + 1:
            return at
    return None


def thinned(log, k):
    """A shortest log that is alike up to k, and the steps to it."""
    taken = []
    at = place_to_leave_out(log, k)
    while at is not None:
        step = ("out", at)
        taken.append(step)
        log = log_behind_step(log, step)
        at = place_to_leave_out(log, k)
    return log, taken


def turn_places(log, k):
    """For each position but the last one, whether its event may be exchanged with the next one.

    In a shortest log this holds exactly where the numbers of both are equal and sum to k + 1. All
    events then keep their numbers, so the places stay the same behind every such turn.
    """
    left, right = both_numbers(log)
    pairs = list(zip(left, right))
    return [one == two and sum(one) == k + 1 for one, two in zip(pairs, pairs[1:])]


def straightened(log, k):
    """The first log that turns lead to from a shortest one, and the steps to it."""
    may_turn = turn_places(log, k)
    taken = []
    for end in range(1, len(log)):
        at = end - 1
        while at >= 0 and may_turn[at] and log[at] > log[at + 1]:
            step = ("turn", at)
            taken.append(step)
            log = log_behind_step(log, step)
            at -= 1
    return log, taken


def to_first(log, k):
    """The first log that is alike up to k, and allowed steps that lead to it."""
    short, outs = thinned(log, k)
    first, turns = straightened(short, k)
    return first, tuple(outs + turns)


def first_alike(log, k):
    """The first log that is alike to the log up to k."""
    check_log(log)
    check_bound(k)
    first, _ = to_first(log, k)
    return first


def alike_paper(log, other, k):
    """A paper that they are alike up to k, or that they are not."""
    check_log(log)
    check_log(other)
    check_bound(k)
    pattern = first_parting(log, other)
    if pattern is not None and len(pattern) <= k:
        return ("parted", pattern)
    _, taken = to_first(log, k)
    _, other_taken = to_first(other, k)
    return ("alike", taken, other_taken)


def is_meeting(log, other, k, taken, other_taken):
    """Whether these are allowed steps of both logs that lead to one log."""
    if not isinstance(taken, tuple) or not isinstance(other_taken, tuple):
        return False
    end = log_behind_all(log, k, taken)
    return end is not None and end == log_behind_all(other, k, other_taken)


def is_parting(log, other, k, value):
    """Whether the value is a log of at most k events that is a pattern of exactly one of them."""
    if not is_any_log(value) or len(value) > k:
        return False
    return is_below(value, log) != is_below(value, other)


def is_alike_paper(log, other, k, value):
    """Whether the value is a paper that they are alike up to k, or that they are not."""
    check_log(log)
    check_log(other)
    check_bound(k)
    if not isinstance(value, tuple):
        return False
    if len(value) == 3 and value[0] == "alike":
        return is_meeting(log, other, k, value[1], value[2])
    return len(value) == 2 and value[0] == "parted" and is_parting(log, other, k, value[1])

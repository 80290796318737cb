"""Plain searches to compare with, and values that are wrong somewhere."""

import copy
from itertools import combinations, permutations, product

from seldomflip.base.logs import Growth


def in_order(logs):
    return sorted(logs, key=lambda log: (len(log), log))


def all_logs(letters, most):
    return [log for length in range(most + 1) for log in product(letters, repeat=length)]


def ways(log, other):
    return [places for places in combinations(range(len(other)), len(log))
            if tuple(other[at] for at in places) == log]


def is_below(log, other):
    return bool(ways(log, other))


def patterns_of(log, longest=None):
    most = len(log) if longest is None else min(longest, len(log))
    return {tuple(log[at] for at in places)
            for length in range(most + 1) for places in combinations(range(len(log)), length)}


def are_alike(log, other, k):
    return patterns_of(log, k) == patterns_of(other, k)


def steps_of(log):
    outs = [("out", at) for at in range(len(log))]
    return outs + [("turn", at) for at in range(len(log) - 1) if log[at] != log[at + 1]]


def behind(log, step):
    events = list(log)
    at = step[1]
    if step[0] == "out":
        del events[at]
    else:
        events[at], events[at + 1] = events[at + 1], events[at]
    return tuple(events)


def orders(many):
    return list(permutations(range(many)))


def deep(value, many):
    for _ in range(many):
        value = (value,)
    return value


LONG_NAME = "abcdefghi"
WHOLE_NAME = "abcdefgh"
TOO_LONG = ("a",) * 201
FULL = ("a", "b") * 100

# values that are neither integers nor tuples, as far as the document tells of wrong values
OTHERS = (None, True, False, "", "a", "ab", "a\nb", "~" * 300, [], ["a"], [()], {}, {"a": "b"}, {(): ()}, Growth(()),
          Growth(("a",), (0, "b")))
NUMBERS = (0, 1, -1, 200, 10 ** 59, -(10 ** 59))
# no one of these is a log of any letters
NO_LOGS = OTHERS + NUMBERS + (
    (1,), (True,), (None,), ("",), ("A",), ("a", "B"), ("a b",), ("a\n",), ("a.",), ("1",), ("a1",), ("`",), ("{",), ("\u00e9",),
    (LONG_NAME,), ("a", LONG_NAME), (("a",),), ((),), (["a"],), ({},), (Growth(()),), ("a", None), ("a",) * 200 + (1,),
    TOO_LONG, FULL + ("a",), deep((), 9), (10 ** 59,))
# no one of these is an integer
NO_NUMBERS = OTHERS + ((), (1,), "1", ("a",), [1], {1: 1}, deep(1, 9))


def unchanged(case, call, *values, **named):
    """Calls it twice with the same values, which must stay as they are, and returns the one result."""
    before = copy.deepcopy((values, named))
    first = call(*values, **named)
    second = call(*values, **named)
    case.assertEqual((values, named), before)
    case.assertEqual(first, second)
    return first


def refused(case, error, call, *values, **named):
    """The error, of just this class, with which the call is refused, now and once more."""
    before = copy.deepcopy((values, named))
    for _ in range(2):
        with case.assertRaises(error) as caught:
            call(*values, **named)
        case.assertIs(type(caught.exception), error, (values, named))
    case.assertEqual((values, named), before)
    return caught.exception

"""Plain searches to compare with, and values that are wrong somewhere."""

import copy
import random
import sys
from itertools import combinations, permutations, product

from seldomflip.base.logs import Growth
from seldomflip.sets.logsets import Logs


def in_order(logs):
    return sorted(logs, key=lambda log: (len(log), log))


def all_logs(letters, most):
    return [log for length in range(most + 1) for log in product(letters, repeat=length)]


def ways(log, other):
    return [places for places in combinations(range(len(other)), len(log))
            if tuple(other[at] for at in places) == log]


def is_below(log, other):
    return bool(ways(log, other))


def fits(log, other):
    """The same, told for long logs, too."""
    events = iter(other)
    return all(event in events for event in log)


def patterns_of(log, longest=None):
    most = len(log) if longest is None else min(longest, len(log))
    return {tuple(log[at] for at in places)
            for length in range(most + 1) for places in combinations(range(len(log)), length)}


def are_alike(log, other, k):
    return patterns_of(log, k) == patterns_of(other, k)


def first_like(log, k):
    """The first log with the same patterns of at most k events, by going through all logs without other ones.

    Logs with the same patterns so far go on alike, so only the first one of them is gone on with.
    """
    wanted = sorted(patterns_of(log, k))
    place = {pattern: at for at, pattern in enumerate(wanted)}
    letters = sorted(set(log))
    longer = {letter: [place.get(pattern + (letter,), -1 if len(pattern) < k else at) for at, pattern in enumerate(wanted)]
              for letter in letters}
    begin = frozenset([place[()]])
    known = {begin}
    queue = [((), begin)]
    while True:
        one, found = queue.pop(0)
        if len(found) == len(wanted):
            return one
        for letter in letters:
            more = frozenset(longer[letter][at] for at in found) | found
            if -1 not in more and more not in known:
                known.add(more)
                queue.append((one + (letter,), more))


def first_unlike(log, other):
    """The first log that occurs in exactly one of them, or None, by going on from all logs that occur in both."""
    def place_behind(one, begin, letter):
        return one.index(letter, begin) + 1 if letter in one[begin:] else None

    ends = {(0, 0): ()}
    while ends:
        longer = {}
        for (one, two), pattern in ends.items():
            for letter in sorted(set(log + other)):
                pair = (place_behind(log, one, letter), place_behind(other, two, letter))
                if (pair[0] is None) != (pair[1] is None):
                    return pattern + (letter,)
                if pair[0] is not None:
                    longer.setdefault(pair, pattern + (letter,))
        ends = longer
    return None


def steps_of(log):
    outs = [("out", at) for at in range(len(log))]
    return outs + [("turn", at) for at in range(len(log) - 1) if log[at] != log[at + 1]]


def behind(log, step):
    events = list(log)
    at = step[1]
    if step[0] == "out":
        del events[at]
    else:
        events[at], events[at + 1] = events[at + 1], events[at]
    return tuple(events)


def orders(many):
    return list(permutations(range(many)))


def deep(value, many):
    for _ in range(many):
        value = (value,)
    return value


LONG_NAME = "abcdefghi"
WHOLE_NAME = "abcdefgh"
TOO_LONG = ("a",) * 201
FULL = ("a", "b") * 100

# values that are neither integers nor tuples, as far as the document tells of wrong values
OTHERS = (None, True, False, "", "a", "ab", "a\nb", "~" * 300, [], ["a"], [()], {}, {"a": "b"}, {(): ()}, Growth(()),
          Growth(("a",), (0, "b")))
NUMBERS = (0, 1, -1, 200, 10 ** 59, -(10 ** 59))
# no one of these is a log of any letters
NO_LOGS = OTHERS + NUMBERS + (
    (1,), (True,), (None,), ("",), ("A",), ("a", "B"), ("a b",), ("a\n",), ("a.",), ("1",), ("a1",), ("`",), ("{",), ("\u00e9",),
    (LONG_NAME,), ("a", LONG_NAME), (("a",),), ((),), (["a"],), ({},), (Growth(()),), ("a", None), ("a",) * 200 + (1,),
    TOO_LONG, FULL + ("a",), deep((), 9), (10 ** 59,))
# no one of these is an integer
NO_NUMBERS = OTHERS + ((), (1,), "1", ("a",), [1], {1: 1}, deep(1, 9))


def lines_of(call, *values):
    """How many lines of Python are run for the call."""
    many = 0

    def count(frame, event, _):
        nonlocal many
        many += event == "line"
        return count

    before = sys.gettrace()
    sys.settrace(count)
    try:
        call(*values)
    finally:
        sys.settrace(before)
    return many


def unchanged(case, call, *values, **named):
    """Calls it twice with the same values, which must stay as they are, and returns the one result."""
    before = copy.deepcopy((values, named))
    first = call(*values, **named)
    second = call(*values, **named)
    case.assertEqual((values, named), before)
    case.assertEqual(first, second)
    return first


def refused(case, error, call, *values, **named):
    """The error, of just this class, with which the call is refused, now and once more."""
    before = copy.deepcopy((values, named))
    for _ in range(2):
        with case.assertRaises(error) as caught:
            call(*values, **named)
        case.assertIs(type(caught.exception), error, (values, named))
    case.assertEqual((values, named), before)
    return caught.exception


def some_machines(seed, many, letters, most, labels=(True, False)):
    """Machines, or judges, with any rows and labels."""
    source = random.Random(seed)
    found = []
    for _ in range(many):
        states = source.randint(1, most)
        rows = tuple(tuple(source.randrange(states) for _ in letters) for _ in range(states))
        found.append((tuple(letters), rows, tuple(source.choice(labels) for _ in range(states))))
    return found


def label(machine, log, state=0):
    """The label of the state to which the log leads."""
    letters, rows, labels = machine
    for event in log:
        state = rows[state][letters.index(event)]
    return labels[state]


def members(machine, most):
    """The logs of the machine with at most so many events."""
    return [log for log in all_logs(machine[0], most) if label(machine, log)]


def subsets(log):
    """The logs that occur in the log, the log itself among them."""
    return patterns_of(log)


def tail(states, back, good, letters=("a",)):
    """A machine in which each event leads to the next state, and from the last one back."""
    rows = tuple((min(state + 1, states - 1) if state < states - 1 else back,) * len(letters) for state in range(states))
    return (letters, rows, tuple(state in good for state in range(states)))


def round_of_states(letters, letter, many, good):
    """A machine that counts one letter round and round, and leaves the other ones out."""
    rows = tuple(tuple((state + 1) % many if one == letter else state for one in letters) for state in range(many))
    return (letters, rows, tuple(state in good for state in range(many)))


AB = ("a", "b")
EVEN = (AB, ((1, 0), (0, 1)), (True, False))
PLAIN = (AB, ((1, 2), (1, 2), (2, 2)), (True, True, False))
SETS = (Logs(EVEN), Logs(PLAIN), Logs.nothing(("a",)))
# no one of these is letters
NO_LETTERS = OTHERS + NUMBERS + SETS + (
    (), ("b", "a"), ("a", "a"), ("a", "b", "c", "d", "e"), ("A",), ("",), (LONG_NAME,), ("a", 1), ("a", None), ["a", "b"],
    ("a", "b", "a"), (("a",),), ("a b",), deep("a", 9))
WRONG_LOGS = NO_LOGS + SETS + (("c",), ("a", "c"), ("a", "b", "aa"), (SETS[0],))


def machine_parts(labels):
    """Values that are no machine, or no judge with these two labels, each wrong in one part."""
    one, two = labels
    rows = ((1, 0), (0, 1))
    good = (one, two)
    found = [(letters, rows, good) for letters in NO_LETTERS]
    found += [(AB, value, good) for value in OTHERS + NUMBERS + SETS + ((), ("a", "b"), deep(0, 9), list(rows))]
    found += [(AB, (row, (0, 1)), good) for row in OTHERS + NUMBERS + SETS + ((), (1,), (1, 0, 0), [1, 0], {1: 0})]
    for state in OTHERS + SETS + (2, -1, 10 ** 59, -(10 ** 59), (0,), "0", True, False):
        found += [(AB, ((1, state), (0, 1)), good), (AB, ((1, 0), (state, 1)), good)]
    found += [(AB, rows, value) for value in OTHERS + NUMBERS + SETS + ((), (one,), (one, two, one), list(good), {0: one})]
    found += [(AB, ((1, 1, 0), (0, 0, 1)), good), (("a",), rows, good), (AB, rows), (AB, rows, good, good), (), [AB, rows, good]]
    found += [(AB, (), ()), (rows, AB, good), (AB, good, rows)]
    return tuple(found) + OTHERS + NUMBERS + SETS + NO_LOGS


NO_MACHINES = machine_parts((True, False)) + tuple(
    (AB, ((1, 0), (0, 1)), (True, value)) for value in OTHERS[3:] + NUMBERS + SETS + (None, "True", (True,), 0, 1)) + (
    tail(201, 200, (200,)), ("ab", ((0, 0),), (True,)), (AB, ((0, 0),), True))


VERDICTS = (None, "no", "yes", "x")
LAST = (AB, ((1, 2), (1, 2), (1, 2)), (None, "x", "y"))
ONCE = (AB, ((1, 0), (2, 1), (2, 2)), ("no", "yes", "no"))
TURNS = (AB, ((1, 0), (1, 2), (2, 2)), ("no", "yes", "no"))
THREE = (("a", "b", "c"), ((1, 2, 3), (4, 4, 4), (4, 4, 4), (4, 4, 4), (4, 4, 4)), (None, "p", "q", "r", None))
FREE = (AB, ((0, 0),), (None,))
OTHER_LETTERS = (("a", "c"), ((1, 0), (2, 1), (2, 2)), ("no", "yes", "no"))


def tail_judge(verdicts, back):
    """A judge of the log of a's: verdicts one behind another, and from the last state back to one of them."""
    rows = tuple((state + 1 if state < len(verdicts) - 1 else back,) for state in range(len(verdicts)))
    return (("a",), rows, tuple(verdicts))


SIX = ("a", "b", "c", "d", "e", "f")
NO_NAMES = OTHERS[:3] + OTHERS[7:] + NUMBERS + SETS + (
    "", "A", "a b", "a1", LONG_NAME, "a\n", "\u00e9", (), ("no",), ["no"], {"no": 1}, deep("no", 9))
NO_JUDGES = machine_parts(("yes", None)) + machine_parts(("no", "yes")) + tuple(
    (AB, ((1, 0), (0, 1)), ("yes", value)) for value in NO_NAMES if value is not None) + (
    tail_judge(("no",) * 41, 40), tail_judge(SIX, 0), tail_judge(SIX + (None,), 6), EVEN, PLAIN,
    (("a",), ((0,),) * 6, SIX), (("a",), ((0,),), "no"))

"""Least tables of spreads, where going through all masks would take too long.

Masks with the same answers to some tests are taken to be alike. Then this is shown, or a log is
found that parts two of them, and becomes a test.
"""

from seldomflip.sets.tables import check_size, renumbered

MANY_TESTS = 1000
MANY_SHORT = 300
MANY_WALKS = 8
LONGEST_WALK = 200
MANY_PARTED = 20


def first_tests(spread):
    """The masks of the states from which a log is good, for the first logs; whether these are all."""
    tests = [spread.goods]
    known = {spread.goods: True}
    at = 0
    while at < len(tests) and len(tests) < MANY_TESTS:
        mask = tests[at]
        at += 1
        for letter in range(spread.width):
            test = spread.ahead(mask, letter)
            if test not in known:
                known[test] = True
                tests.append(test)
    return tests, at == len(tests)


def more_tests(spread, tests):
    """Some of the first tests, and those for some long logs.

    Masks that are far from all good states are parted by long logs only. Any logs will do, as long as
    they are unlike one another: squares of the positions tell their events.
    """
    found = tests[:MANY_SHORT]
    known = {test: True for test in found}
    for turn in range(MANY_WALKS):
        test = spread.goods
        for step in range(LONGEST_WALK):
            test = spread.ahead(test, step * step * (turn + 2) // 5 % spread.width)
            if test and test not in known:
                known[test] = True
                found.append(test)
    return found


def add_tests(spread, tests, path):
    """Adds the tests for a log and for what it ends with."""
    test = spread.goods
    for letter in path[::-1]:
        test = spread.ahead(test, letter)
        if test not in tests:
            tests.append(test)


def answers_to(tests, mask):
    """The answers of a mask to the tests, as one integer."""
    found = 0
    bit = 1
    for test in tests:
        if mask & test:
            found |= bit
        bit <<= 1
    return found


def guess(width, step, begin, tests, most):
    """One mask for each row of answers, the rows of a table of them, and pairs of masks taken to be alike."""
    masks = [begin]
    number = {answers_to(tests, begin): 0}
    rows = []
    alike = []
    while len(rows) < len(masks):
        mask = masks[len(rows)]
        row = []
        for letter in range(width):
            following = step(mask, letter)
            answers = answers_to(tests, following)
            if answers not in number:
                number[answers] = len(masks)
                masks.append(following)
                check_size(len(masks), most)
            elif masks[number[answers]] != following:
                alike.append((following, masks[number[answers]]))
            row.append(number[answers])
        rows.append(row)
    return masks, rows, alike


def filled_up(mask, rules):
    """The mask with all that is known to change nothing: what a rule tells for a part of it."""
    changed = True
    while changed:
        changed = False
        for part, whole in rules:
            if not part & ~mask and whole & ~mask:
                mask |= whole
                changed = True
    return mask


def parted_paths(spread, step, alike):
    """Paths of logs that part masks taken to be alike; none if they are indeed.

    If all are alike, then so are those that follow them. So it is enough that each pair that
    follows is equal once all of this is taken for known, or is shown in the same way.
    """
    rules = []
    for mask, other in alike:
        rules.extend([(mask, mask | other), (other, mask | other)])
    pairs = [(mask, other, ()) for mask, other in alike]
    found = []
    at = 0
    while at < len(pairs) and len(found) < MANY_PARTED:
        mask, other, path = pairs[at]
        at += 1
        for letter in range(spread.width):
            one = step(mask, letter)
            two = step(other, letter)
            if (one & spread.goods == 0) != (two & spread.goods == 0):
                found.append(path + (letter,))
            elif one != two and filled_up(one, rules) != filled_up(two, rules):
                rules.extend([(one, one | two), (two, one | two)])
                pairs.append((one, two, path + (letter,)))
    return found


def guessed(spread, step, begin, tests, most):
    """Rows and good states of the least table of the spread; more states than the most are refused."""
    while True:
        masks, rows, alike = guess(spread.width, step, begin, tests, most)
        paths = parted_paths(spread, step, alike)
        if not paths:
            return renumbered(rows, [mask & spread.goods != 0 for mask in masks], 0)
        for path in paths:
            add_tests(spread, tests, path)

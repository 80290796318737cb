"""Least tables of the minimal and the maximal logs of a set.

A config is a pair: the state behind a log, and the mask of the states behind the other logs that
occur in it, or in which it occurs. None stands for no log at all.
"""

from seldomflip.sets.masks import columns_before, image_of, true_mask, turned_masks
from seldomflip.sets.settling import settled
from seldomflip.sets.spreads import Falling
from seldomflip.sets.tables import live_states


def states_entering(rows):
    """For each state and letter the states from which the letter leads to it."""
    found = [[[] for _ in rows[0]] for _ in rows]
    for state, row in enumerate(rows):
        for at, following in enumerate(row):
            found[following][at].append(state)
    return found


def masks_that_matter(rows, goods, first, ahead):
    """For each state the mask of the states that can lead to a good one beside it, on some log.

    The mask first is that of the states which do so beside a good state, without events, and the
    call ahead tells which ones lead to a mask with one event more.
    """
    entering = states_entering(rows)
    found = [first if is_good else 0 for is_good in goods]
    fresh = list(found)
    stack = [state for state, mask in enumerate(found) if mask]
    while stack:
        following = stack.pop()
        mask = fresh[following]
        fresh[following] = 0
        for at, states in enumerate(entering[following]):
            wider = ahead(mask, at) if states else 0
            for state in states:
                if wider & ~found[state]:
                    if not fresh[state]:
                        stack.append(state)
                    fresh[state] |= wider & ~found[state]
                    found[state] |= wider
    return found


def minimal_table(rows, goods, most):
    """Rows and good states of the least table of the good logs above no other good log."""
    good_mask = true_mask(goods)
    live = live_states(rows, goods)
    before = columns_before(rows)
    columns = [[1 << row[at] for row in rows] for at in range(len(rows[0]))]

    def ahead(mask, at):
        return mask | image_of(mask, before[at])

    matter = masks_that_matter(rows, goods, good_mask, ahead)

    def step(config, at):
        if config is None:
            return None
        state, mask = config
        following = rows[state][at]
        mask = (mask | image_of(mask, columns[at]) | 1 << state) & matter[following]
        # what leads from the state to a good one would also do so without some events
        return None if not live[following] or mask & (good_mask | 1 << following) else (following, mask)

    def is_good(config):
        return config is not None and goods[config[0]]

    return settled((0, 0) if live[0] else None, len(rows[0]), step, is_good, most, None)


def masks_later(falling):
    """For each state the mask of the states to which one or more events lead from it."""
    found = []
    for row in falling.rows:
        mask = 0
        for following in row:
            mask |= falling.reach[following]
        found.append(mask)
    return found


def maximal_table(rows, goods, most):
    """Rows and good states of the least table of the good logs below no other good log."""
    falling = Falling(rows, [0])
    near = falling.rows
    known = [goods[state] for state in falling.order]
    good_mask = true_mask(known)
    before = columns_before(near)
    leading = turned_masks(falling.reach)

    def ahead(mask, at):
        return image_of(image_of(mask, before[at]), leading)

    matter = masks_that_matter(near, known, falling.leading_to(good_mask), ahead)
    later = masks_later(falling)

    def with_mask(state, mask):
        mask = (mask | later[state]) & matter[state]
        # what leads from the state to a good one would also do so with more events
        return None if not matter[state] or mask >> state & 1 else (state, mask)

    def step(config, at):
        if config is None:
            return None
        state, mask = config
        return with_mask(near[state][at], falling.behind(mask, at))

    def is_good(config):
        return config is not None and known[config[0]] and config[1] & good_mask == 0

    return settled(with_mask(falling.place[0], 0), len(rows[0]), step, is_good, most, None)

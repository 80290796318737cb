"""Masks: sets of states as integers, with the bit s for the state s."""


def mask_of(states):
    """The mask of the states."""
    found = 0
    for state in states:
        found |= 1 << state
    return found


def true_mask(marks):
    """The mask of the states that have True."""
    return mask_of([state for state, mark in enumerate(marks) if mark])


def bits_of(mask):
    """The states of the mask, ascending."""
    found = []
    while mask:
        low = mask & -mask
        found.append(low.bit_length() - 1)
        mask ^= low
    return found


def image_of(mask, columns):
    """The union of what the columns tell for the states of the mask."""
    found = 0
    while mask:
        low = mask & -mask
        found |= columns[low.bit_length() - 1]
        mask ^= low
    return found


def columns_before(rows):
    """For each letter and state the mask of the states from which the letter leads to it."""
    columns = [[0 for _ in rows] for _ in rows[0]]
    for state, row in enumerate(rows):
        for at, following in enumerate(row):
            columns[at][following] |= 1 << state
    return columns


def united(rows, masks, order):
    """For each state the union of the masks of the states that can be reached from it.

    Quick if most states stand in the order behind those they lead to.
    """
    found = list(masks)
    changed = True
    while changed:
        changed = False
        for state in order:
            mask = found[state]
            for following in rows[state]:
                mask |= found[following]
            if mask != found[state]:
                found[state] = mask
                changed = True
    return found

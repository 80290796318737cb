"""Rows of atoms, for values that are known to be chains.

Such a row reads a log event by event. What is left of it is the row from some atom on; the more is
left, the more logs it stands for. So each event is read by the first atom that can.
"""


def has_place_for(atom, event):
    """Whether the atom stands for the log of this event."""
    kind, inside = atom
    return event in inside if kind == "any" else event == inside


def place_behind(chain, place, event):
    """The atom from which the chain goes on behind the event, or None."""
    for at in range(place, len(chain)):
        if has_place_for(chain[at], event):
            return at if chain[at][0] == "any" else at + 1
    return None


def place_of_rest(chain, log):
    """The atom from which the chain goes on behind the log, or None."""
    place = 0
    for event in log:
        place = place_behind(chain, place, event)
        if place is None:
            return None
    return place


def is_atom_within(atom, other):
    """Whether the other atom stands for all logs of the atom."""
    if other[0] == "maybe":
        return atom == other
    if atom[0] == "maybe":
        return atom[1] in other[1]
    return all([letter in other[1] for letter in atom[1]])


def is_chain_within(chain, other):
    """Whether the other chain stands for all logs of the chain."""
    at = 0
    place = 0
    while at < len(chain):
        while place < len(other) and not is_atom_within(chain[at], other[place]):
            place += 1
        if place == len(other):
            return False
        # an atom for one event is used up, one for any events can be used again
        if other[place][0] == "maybe":
            place += 1
        at += 1
    return True


def is_absorbed(atom, other):
    """Whether the other atom, right beside the atom, already stands for all that both stand for."""
    return other[0] == "any" and is_atom_within(atom, other)


def reduced_chain(chain):
    """The reduced chain with the same logs."""
    found = []
    for atom in chain:
        while found and is_absorbed(found[-1], atom):
            found.pop()
        if not found or not is_absorbed(atom, found[-1]):
            found.append(atom)
    return tuple(found)


def letters_of(chain):
    """The letters of the chain, ascending."""
    found = {}
    for kind, inside in chain:
        for letter in inside if kind == "any" else (inside,):
            found[letter] = True
    return tuple(sorted(found))


def places_behind(chain, letters):
    """For each atom, and the end, the atom from which the chain goes on behind each letter, or None."""
    row = [None for _ in letters]
    rows = [row]
    for place in reversed(range(len(chain))):
        atom = chain[place]
        follower = place if atom[0] == "any" else place + 1
        row = [follower if has_place_for(atom, letter) else old for letter, old in zip(letters, row)]
        rows.append(row)
    return rows[::-1]

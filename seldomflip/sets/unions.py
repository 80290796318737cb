"""Sets closed downward as unions of chains, both ways, and the first logs outside of them."""

from seldomflip.sets.atoms import is_atom_within, places_behind, reduced_chain
from seldomflip.sets.tables import check_size, last_first, state_after


def can_begin(atom, others, place, limit):
    """Whether the place can stand for the atom, and what follows it begin at the limit or ahead of it."""
    if place == len(others) or not is_atom_within(atom, others[place]):
        return False
    # an atom for one event is used up by the atom that it stands for
    return place < limit if others[place][0] == "maybe" else place <= limit


class Union:
    """The logs for which some of the chains stands.

    What is left of the chains behind a log is told by pairs of a chain and one of its atoms. The
    different rows of these, without those within another one, are the states of the least machine.
    """

    def __init__(self, letters, chains):
        self._chains = sorted(set([reduced_chain(chain) for chain in chains]))
        self._tables = [places_behind(chain, letters) for chain in self._chains]
        self._limits = {}
        self._first_alike = {}
        self.rests = self._greatest([(number, 0) for number in range(len(self._chains))])

    def _limits_of(self, one, other):
        """For each atom of one chain, and its end, the last atom of the other one from which it stands for as much."""
        key = (one, other)
        if key not in self._limits:
            atoms = self._chains[one]
            others = self._chains[other]
            last = len(others)
            found = [last]
            for atom in atoms[::-1]:
                while last >= 0 and not can_begin(atom, others, last, found[-1]):
                    last -= 1
                found.append(last)
            self._limits[key] = found[::-1]
        return self._limits[key]

    def _is_within(self, rest, other):
        """Whether the other rest of a chain stands for all logs of the rest."""
        return other[1] <= self._limits_of(rest[0], other[0])[rest[1]]

    def _named(self, rest):
        """The first of the rests that stand for the same logs."""
        if rest not in self._first_alike:
            self._first_alike[rest] = rest
            for number in range(rest[0]):
                other = (number, self._limits_of(rest[0], number)[rest[1]])
                if other[1] >= 0 and self._is_within(other, rest):
                    self._first_alike[rest] = other
                    break
        return self._first_alike[rest]

    def _greatest(self, rests):
        """The different rests that are within no other one."""
        named = sorted(set([self._named(rest) for rest in rests]))
        found = []
        for rest in named:
            if not any([rest != other and self._is_within(rest, other) for other in named]):
                found.append(rest)
        return tuple(found)

    def behind(self, rests, at):
        """What is left behind one event more."""
        found = []
        for number, place in rests:
            following = self._tables[number][place][at]
            if following is not None:
                found.append((number, following))
        return self._greatest(found)


def union_table(letters, chains, most):
    """Rows and good states of the least table of the logs for which some of the chains stands."""
    union = Union(letters, chains)
    states = [union.rests]
    number = {union.rests: 0}
    rows = []
    while len(rows) < len(states):
        row = []
        state = states[len(rows)]
        for at in range(len(letters)):
            following = union.behind(state, at)
            if following not in number:
                number[following] = len(states)
                states.append(following)
                check_size(len(states), most)
            row.append(number[following])
        rows.append(tuple(row))
    return tuple(rows), tuple([state != () for state in states])


def state_behind_chain(machine, state, chain):
    """The state to which, in a set closed downward, the logs of the chain lead if they go on long enough."""
    letters, rows, _ = machine
    for kind, inside in chain:
        if kind == "maybe":
            state = rows[state][letters.index(inside)]
        else:
            ahead = None
            while ahead != state:
                ahead = state
                for letter in inside:
                    state = rows[state][letters.index(letter)]
    return state


def chains_from(machine, state, lists):
    """The greatest chains within the logs from a state, by those from the states that follow it.

    Of the chains that begin with one letter none is within another one. One of them is within one
    that begins with another letter exactly if the state behind that letter has its logs.
    """
    letters, rows, good = machine
    row = rows[state]
    loops = tuple([letter for letter, following in zip(letters, row) if following == state])
    front = (("any", loops),) if loops else ()
    moves = [at for at, following in enumerate(row) if following != state and good[following]]
    whole = {}
    for at in moves:
        longer = [(("maybe", letters[at]),) + rest for rest in lists[row[at]]]
        whole[at] = {reduced_chain(front + rest): rest for rest in longer}
    found = {} if moves else {front: True}
    for at in moves:
        for chain in whole[at]:
            # letters can give the same chain; it is then within the logs of each of them
            others = [row[other] for other in moves if chain not in whole[other]]
            ends = [state_behind_chain(machine, other, whole[at][chain]) for other in others]
            if not any([good[end] for end in ends]):
                found[chain] = True
    return list(found)


def greatest_chains(machine, most):
    """The list of the set, closed downward, of a least machine; None for more chains than the most.

    No state has more chains than the first one, as a chain has one rest behind each log.
    """
    _, rows, good = machine
    lists = [[] for _ in rows]
    for state in last_first(rows, [0]):
        if good[state]:
            lists[state] = chains_from(machine, state, lists)
            if len(lists[state]) > most:
                return None
    return tuple(sorted(lists[0]))


def least_outside(machine, most):
    """The paths of the minimal logs that are not in the set, closed downward, of a least machine.

    None for more of them than the most. No state has more of them than the first one: each of them is
    also minimal ahead of a letter, with or without this letter in front.
    """
    _, rows, good = machine
    paths = {}
    for state in last_first(rows, [0]):
        found = [] if good[state] else [()]
        for at, following in enumerate(rows[state]):
            # what follows is done already, but for the state itself
            for path in paths[following] if good[state] and following != state else []:
                # nothing but the first event could be left out
                if good[state_after(rows, state, path)]:
                    found.append((at,) + path)
        if len(found) > most:
            return None
        paths[state] = found
    return paths[0]

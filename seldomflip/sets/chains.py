"""Chains, which tell sets of logs that are closed downward."""

from seldomflip.base.checks import check_number, is_ascending, is_name
from seldomflip.base.logs import MAX_EVENTS, check_events, check_letters, check_log
from seldomflip.errors import InvalidChain, InvalidOperation, TooMany
from seldomflip.sets.atoms import is_chain_within, letters_of, place_of_rest, places_behind, reduced_chain
from seldomflip.sets.closures import is_closed_down
from seldomflip.sets.ends import listed_above
from seldomflip.sets.logsets import Logs, check_logs_over, check_set
from seldomflip.sets.machines import MAX_STATES, log_of
from seldomflip.sets.tables import first_path
from seldomflip.sets.unions import greatest_chains, least_outside, union_table

MAX_ATOMS = 400
MAX_CHAINS = 100


def is_atom(value):
    """Whether the value is an atom of any letters."""
    if not isinstance(value, tuple) or len(value) != 2:
        return False
    kind, inside = value
    if kind == "maybe":
        return is_name(inside)
    if kind != "any" or not isinstance(inside, tuple) or inside == ():
        return False
    return all([is_name(letter) for letter in inside]) and is_ascending(inside)


def is_any_chain(value):
    """Whether the value is a chain of any letters."""
    if not isinstance(value, tuple) or len(value) > MAX_ATOMS:
        return False
    return all([is_atom(atom) for atom in value])


def is_chain_over(letters, value):
    """Whether the value is a chain of these letters."""
    return is_any_chain(value) and all([letter in letters for letter in letters_of(value)])


def check_chain(value):
    """Refuses what is no chain of any letters."""
    if not is_any_chain(value):
        raise InvalidChain("a chain is a tuple of at most 400 atoms")


def check_chains_over(letters, value):
    """Refuses what is no tuple of chains of these letters."""
    if not isinstance(value, tuple) or not all([is_chain_over(letters, chain) for chain in value]):
        raise InvalidChain("a tuple of chains of the letters is needed")


def is_chain(letters, value):
    """Whether the value is a chain of these letters."""
    check_letters(letters)
    return is_chain_over(letters, value)


def is_in_chain(chain, log):
    """Whether the chain stands for the log."""
    check_chain(chain)
    check_log(log)
    return place_of_rest(chain, log) is not None


def is_within(chain, other):
    """Whether the other chain stands for all logs of the chain."""
    check_chain(chain)
    check_chain(other)
    return is_chain_within(chain, other)


def first_outside(chain, other):
    """The first log for which the chain stands and the other one does not, or None."""
    check_chain(chain)
    check_chain(other)
    if is_chain_within(chain, other):
        return None
    letters = letters_of(chain)
    places = places_behind(chain, letters)
    others = places_behind(other, letters)

    def step(pair, at):
        place = places[pair[0]][at]
        return None if place is None else (place, others[pair[1]][at])

    def is_outside(pair):
        return pair[1] is None

    path = first_path((0, 0), len(letters), step, is_outside)
    check_events(len(path))
    return log_of(letters, path)


def reduced(chain):
    """The reduced chain with the same logs."""
    check_chain(chain)
    return reduced_chain(chain)


def rest_of(chain, log):
    """The reduced chain of the logs that can follow the log, or None."""
    check_chain(chain)
    check_log(log)
    place = place_of_rest(chain, log)
    return None if place is None else reduced_chain(chain[place:])


def full_log(chain, times):
    """The log with the letter of each maybe once and the letters of each any so many times in turn."""
    check_chain(chain)
    check_number(times, 0, MAX_EVENTS)
    check_events(sum([1 if kind == "maybe" else times * len(inside) for kind, inside in chain]))
    found = ()
    for kind, inside in chain:
        found = found + ((inside,) if kind == "maybe" else inside * times)
    return found


def machine_of(letters, chains):
    """The least machine of the logs for which some of the chains stands."""
    rows, goods = union_table(letters, chains, MAX_STATES)
    return letters, rows, goods


def limited(found, many):
    """A result, unless it is None because it has more parts than so many."""
    if found is None:
        raise TooMany(many)
    return found


def list_logs(letters, chains):
    """The set of the logs for which some of the chains stands."""
    check_letters(letters)
    check_chains_over(letters, chains)
    return Logs(machine_of(letters, chains))


def chains_of(logs):
    """The list of a set closed downward."""
    if not is_closed_down(logs):
        raise InvalidOperation("the set is not closed downward")
    return limited(greatest_chains(logs.machine, MAX_CHAINS), MAX_CHAINS)


def is_list_of(logs, value):
    """Whether the value is the list of the set."""
    check_set(logs)
    if not isinstance(value, tuple) or not is_closed_down(logs):
        return False
    return greatest_chains(logs.machine, len(value)) == value


def avoiding(letters, logs):
    """The list of the logs in which none of the logs of the tuple occurs."""
    check_letters(letters)
    check_logs_over(letters, logs)
    rows, goods = listed_above(letters, logs, MAX_STATES)
    machine = (letters, rows, [not is_good for is_good in goods])
    return limited(greatest_chains(machine, MAX_CHAINS), MAX_CHAINS)


def bars(letters, chains):
    """The minimal logs for which no chain stands, in the order of logs."""
    check_letters(letters)
    check_chains_over(letters, chains)
    paths = limited(least_outside(machine_of(letters, chains), MAX_CHAINS), MAX_CHAINS)
    return tuple([log_of(letters, path) for _, path in sorted([(len(path), path) for path in paths])])

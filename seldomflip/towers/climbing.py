"""The rung sets of judges and of larger tables, as rows and good states of least tables."""

from seldomflip.errors import TooMany
from seldomflip.sets.machines import MAX_STATES
from seldomflip.sets.spreads import above_table
from seldomflip.sets.tables import paired, smallest_table


def all_logs_table(width):
    """Rows and good states of the set of all logs."""
    return ((0,) * width,), (True,)


def next_rung(rows, labels, wanted, table, most):
    """Rows and good states of the logs above one in the set that has the wanted label; more states are refused."""
    others, goods = table
    pairs, both = paired(rows, others)
    small, ends = smallest_table(both, [labels[one] == wanted and goods[two] for one, two in pairs], 0, len(both))
    return above_table(small, ends, most)


def rung_tables(rows, labels, first, other):
    """The rung sets that are not empty; one of them must be empty."""
    found = []
    wanted = other
    table = next_rung(rows, labels, wanted, all_logs_table(len(rows[0])), MAX_STATES)
    while True in table[1]:
        found.append(table)
        wanted = first if wanted == other else other
        table = next_rung(rows, labels, wanted, table, MAX_STATES)
    return found


def are_rung_tables(rows, labels, first, other, tables):
    """Whether these are all the rung sets that are not empty."""
    wanted = other
    before = all_logs_table(len(rows[0]))
    for table in tables:
        try:
            found = next_rung(rows, labels, wanted, before, len(table[0]))
        except TooMany:
            return False
        if found != table:
            return False
        wanted = first if wanted == other else other
        before = table
    pairs, _ = paired(rows, before[0])
    return not any([labels[one] == wanted and before[1][two] for one, two in pairs])

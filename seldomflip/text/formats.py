"""Texts of logs, machines, judges, chains, ladders and rules, each of which is read back from its text."""

from seldomflip.base.logs import MAX_EVENTS, check_letters, check_log, check_logs
from seldomflip.errors import ParseError
from seldomflip.judges.judges import check_judge, is_judge
from seldomflip.rules.rules import MAX_DEPTH, check_rule, is_rule
from seldomflip.sets.chains import check_chains_over, is_chain_over
from seldomflip.sets.closures import minimal
from seldomflip.sets.machines import check_machine, is_machine
from seldomflip.text.laddering import read_ladder
from seldomflip.text.ruling import read_rule, rule_text
from seldomflip.text.words import check_text, log_text, logs_text, read_log, read_number
from seldomflip.towers.ladders import check_ladder


def check_same(text, other):
    """Refuses a text that is not just the text of what was read from it."""
    if text != other:
        raise ParseError("this is not the text of such a thing")


def format_log(log):
    """The text of a log."""
    check_log(log)
    return log_text(log)


def parse_log(letters, text):
    """The log of the letters with this text."""
    check_letters(letters)
    check_text(text)
    return read_log(letters, text)


def format_history(logs):
    """The text of a tuple of logs."""
    check_logs(logs)
    return logs_text(logs)


def parse_history(letters, text):
    """The tuple of logs of the letters with this text."""
    check_letters(letters)
    check_text(text)
    if text == "no logs":
        return ()
    return tuple([read_log(letters, part) for part in text.split(" < ")])


def table_text(letters, rows, words):
    """The text of a table, with a word for each state."""
    lines = [" ".join(("letters",) + letters)]
    for state, row in enumerate(rows):
        lines.append(" ".join([f"{state}:"] + [str(following) for following in row] + [words[state]]))
    return "\n".join(lines)


def machine_text(machine):
    """The text of a machine."""
    letters, rows, good = machine
    return table_text(letters, rows, ["+" if is_good else "-" for is_good in good])


def judge_text(judge):
    """The text of a judge."""
    letters, rows, verdicts = judge
    return table_text(letters, rows, ["*" if verdict is None else verdict for verdict in verdicts])


def format_machine(machine):
    """The text of a machine."""
    check_machine(machine)
    return machine_text(machine)


def format_judge(judge):
    """The text of a judge."""
    check_judge(judge)
    return judge_text(judge)


def read_table(text):
    """The letters, the rows and the words of a text, as far as it has such parts."""
    check_text(text)
    lines = text.split("\n")
    rows = []
    words = []
    for line in lines[1:]:
        parts = line.split(" ")
        rows.append(tuple([read_number(part) for part in parts[1:-1]]))
        words.append(parts[-1])
    return tuple(lines[0].split(" ")[1:]), tuple(rows), words


def parse_machine(text):
    """The machine with this text."""
    letters, rows, words = read_table(text)
    machine = (letters, rows, tuple([word == "+" for word in words]))
    if not is_machine(machine):
        raise ParseError("this is no text of a machine")
    check_same(text, machine_text(machine))
    return machine


def parse_judge(text):
    """The judge with this text."""
    letters, rows, words = read_table(text)
    judge = (letters, rows, tuple([None if word == "*" else word for word in words]))
    if not is_judge(judge):
        raise ParseError("this is no text of a judge")
    check_same(text, judge_text(judge))
    return judge


def atom_text(atom):
    """The text of an atom."""
    kind, inside = atom
    letters = inside if kind == "maybe" else " ".join(inside)
    return f"{letters}?" if kind == "maybe" else f"[{letters}]"


def chain_text(chain):
    """The text of a chain."""
    return " ".join([atom_text(atom) for atom in chain]) if chain != () else "-"


def chains_text(chains):
    """The text of a tuple of chains."""
    return " | ".join([chain_text(chain) for chain in chains]) if chains != () else "none"


def format_chains(letters, chains):
    """The text of a tuple of chains of the letters."""
    check_letters(letters)
    check_chains_over(letters, chains)
    return chains_text(chains)


def read_chain(text):
    """What a text could stand for as a chain; whether it does, its own text tells."""
    found = []
    inside = None
    words = [] if text == "-" else text.split(" ")
    for word in words:
        if inside is None and word[-1:] == "?":
            found.append(("maybe", word[:-1]))
        elif inside is None:
            inside = [word[1:]]
        else:
            inside.append(word)
        if inside is not None and word[-1:] == "]":
            inside[-1] = inside[-1][:-1]
            found.append(("any", tuple(inside)))
            inside = None
    return tuple(found)


def parse_chains(letters, text):
    """The tuple of chains of the letters with this text."""
    check_letters(letters)
    check_text(text)
    chains = tuple([read_chain(part) for part in text.split(" | ")]) if text != "none" else ()
    if not all([is_chain_over(letters, chain) for chain in chains]):
        raise ParseError("this is no text of chains")
    check_same(text, chains_text(chains))
    return chains


def format_ladder(ladder):
    """The text of a ladder."""
    check_ladder(ladder)
    lines = [f"ladder {ladder.first_answer} {ladder.other_answer}"]
    for at, rung in enumerate(ladder.rungs):
        answer = ladder.first_answer if at & 1 else ladder.other_answer
        lowest = minimal(rung)
        logs = " or ".join([log_text(log) for log in lowest.listed(longest=MAX_EVENTS)])
        lines.append(f"{answer} if {logs}")
    return "\n".join(lines)


def parse_ladder(letters, text):
    """The ladder with these letters and this text."""
    check_letters(letters)
    check_text(text)
    return read_ladder(letters, text)


def format_rule(letters, rule):
    """The text of a rule over the letters."""
    check_letters(letters)
    check_rule(letters, rule)
    return rule_text(rule)


def parse_rule(letters, text):
    """The rule over the letters with this text."""
    check_letters(letters)
    check_text(text)
    rule = read_rule(letters, text, MAX_DEPTH)
    if not is_rule(letters, rule):
        raise ParseError("this is no text of a rule")
    check_same(text, rule_text(rule))
    return rule

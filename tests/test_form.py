"""The form of the package: its interface, and what can be read off its files."""

import ast
import inspect
import re
import unittest
from pathlib import Path

from seldomflip import errors
from seldomflip.base import logs, patterns
from seldomflip.judges import histories, judges
from seldomflip.judges import plain as answerers
from seldomflip.late import closing, monitors
from seldomflip.rules import rules
from seldomflip.sets import chains, closures, logsets, machines
from seldomflip.text import formats, shell
from seldomflip.towers import ladders, swings, towers

PACKAGE = Path(__file__).resolve().parent.parent / "seldomflip"
STAGE_1 = """is_letters(value), make_letters(*names), is_log(letters, value), sorted_logs(logs), occurs(log, other),
first_places(log, other), last_places(log, other), first_above(log, other), growths(log, letters), shrinkings(log),
minimal_of(logs), is_history(value), arrived(log, order), refined(history)"""
STAGE_2 = """patterns(log, *, longest=None), number_of_patterns(log, *, longest=None), parting(log, other),
alike(log, other), is_alike(log, other, k), left_numbers(log), right_numbers(log), is_allowed(log, k, value),
after_steps(log, k, *steps), first_alike(log, k), alike_paper(log, other, k), is_alike_paper(log, other, k, value)"""
STAGE_3 = """is_machine(value), is_least(machine), least(machine), turned(machine), state_behind(machine, log, *, begin=0),
contains(machine, log), first_logs(machine), alike_states(machine), parting_states(machine, state, other),
merged(machine, other, *, both=True, first=False, second=False, neither=False), parting_log(machine, other),
comparison(machine, other), is_comparison(machine, other, value)"""
LOGS = """(machine), listing(letters, *logs), listing_of(letters, logs), everything(letters), nothing(letters),
sized(letters, *, least=0, most=None), is_within(self, other), first(self), listed(self, *, longest=4), count(self),
count_of(self, length), log_at(self, index), index_of(self, log)"""
STAGE_5 = """above(logs), below(logs), above_of(letters, logs), below_of(letters, logs), is_closed_up(logs),
is_closed_down(logs), inside_up(logs), inside_down(logs), minimal(logs), maximal(logs), first_over(logs, log),
first_under(logs, log), closure_paper(logs, *, up=True), is_closure_paper(logs, value, *, up=True)"""
STAGE_6 = """is_chain(letters, value), is_in_chain(chain, log), is_within(chain, other), first_outside(chain, other),
reduced(chain), rest_of(chain, log), full_log(chain, times), list_logs(letters, chains), chains_of(logs),
is_list_of(logs, value), avoiding(letters, logs), bars(letters, chains)"""
STAGE_7 = """is_judge(value), make_judge(letters, **sets), make_judge_by(letters, sets), verdict_of(judge, log),
verdicts_of(judge), logs_with(judge, verdict), least_judge(judge), is_total(judge), behind(judge, log),
mapped(judge, **names), mapped_by(judge, names), filled(judge, name), freed(judge, logs), joined(judge, other),
agreed(judge, other), parting_log(judge, other), judge_paper(judge, other), is_judge_paper(judge, other, value)"""
STAGE_8 = """is_history_of(judge, value), are_right(judge, history, value), flips(answers),
kept(judge, history, *, first), flip_logs(judge, history, *, first), fewest_flips(judge, history, *, first=None)"""
KEEPER = """(judge, *, first), tell(self, log), put(self, place, letter), back(self, many=1), trial(self),
during(self, logs, call), branch(self)"""
STAGE_9 = """is_tower(judge, value), rounds(judge), round_of(judge, verdict, number), heights(judge),
height(judge, verdict), reach(judge, log), tower_above(judge, verdict, number, *, start=()),
highest_tower(judge, verdict), height_paper(judge, verdict), is_height_paper(judge, verdict, value)"""
STAGE_10 = """is_swing(judge, value), greatest_swing(judge), walk(judge, swing, *, start=()), number(judge),
best_firsts(judge), number_paper(judge), is_number_paper(judge, value)"""
RIVAL = """(judge), next(self, answer), play(self, answers, *, most=10), back(self, many=1)"""
LADDER = """(letters, first, other, rungs), listing(letters, first, other, lists), as_judge(self), rung(self, log),
exchanged(self)"""
STAGE_11 = """least_ladder(judge, first, other), is_least(judge, ladder), first_wrong(judge, ladder), climb(judge, ladder, log)"""
STAGE_12 = """is_rule(letters, value), holds(letters, rule, log), patterns_of(letters, rule), rule_logs(letters, rule),
rule_judge(letters, rule), rule_ladder(letters, rule), normal(letters, rule), rule_for(logs),
first_unlike(letters, rule, other), implies(letters, rule, other)"""
STAGE_13 = """is_plain(judge, value), worst_flips(answerer), worst_history(answerer), fillings(judge), best_filling(judge),
is_table(judge, logs, value), table_flips(judge, logs, table), least_table(judge, logs), is_knot(judge, value, *, most),
shrunk_knot(judge, logs, *, most)"""
STAGE_14 = """flips_left(judge, closed, late, answer), possible(judge, closed, late), turning(judge, closed, late, answer),
settled_logs(judge, answer), closing_paper(judge, closed, late, answer),
is_closing_paper(judge, closed, late, answer, value)"""
MONITOR = """(judge, *, first=None), flips_left(self), is_settled(self), tell(self, time, letter, *, position=None),
tell_all(self, events), close(self, time), turning(self), back(self, many=1), again(self, many=1), branch(self),
trial(self), during(self, call), watch(self, name, call), unwatch(self, name), rings(self)"""
STAGE_16 = """format_log(log), format_history(logs), format_machine(machine), format_judge(judge), format_chains(letters, chains),
format_ladder(ladder), format_rule(letters, rule), parse_log(letters, text), parse_history(letters, text),
parse_machine(text), parse_judge(text), parse_chains(letters, text), parse_ladder(letters, text), parse_rule(letters, text)"""
SHELL = """(), run(self, line), run_all(self, lines), monitor(self, name)"""
NO_WORDS = ("type", "typing", "enum", "eval", "exec", "open", "input", "elements", "law", "register", "mro")


def sources():
    return [path for path in sorted(PACKAGE.rglob("*")) if path.is_file() and path.parent.name != "__pycache__"]


def trees():
    return [(path.name, ast.parse(path.read_text())) for path in sources()]


class InterfaceTest(unittest.TestCase):

    def check(self, module, text):
        found = []
        for name in re.findall(r"(\w+)\((?:[^()]|\(\))*\)", text):
            call = getattr(module, name)
            self.assertEqual(call.__module__, module.__name__)
            found.append(name + str(inspect.signature(call)))
        self.assertEqual(", ".join(found), " ".join(text.split()))

    def test_functions(self):
        self.check(logs, STAGE_1)
        self.check(patterns, STAGE_2)
        self.check(machines, STAGE_3)
        self.check(closures, STAGE_5)
        self.check(chains, STAGE_6)
        self.check(judges, STAGE_7)
        self.check(histories, STAGE_8)
        self.check(towers, STAGE_9)
        self.check(swings, STAGE_10)
        self.check(ladders, STAGE_11)
        self.check(rules, STAGE_12)
        self.check(answerers, STAGE_13)
        self.check(closing, STAGE_14)
        self.check(formats, STAGE_16)

    def test_constants(self):
        self.assertEqual([logs.MAX_EVENTS, machines.MAX_STATES, chains.MAX_ATOMS, chains.MAX_CHAINS], [200, 200, 400, 100])
        self.assertEqual([judges.MAX_STATES, judges.MAX_VERDICTS, histories.MAX_HISTORY, towers.MAX_ROUNDS], [40, 5, 200, 200])
        self.assertEqual([ladders.MAX_RUNGS, rules.MAX_PATTERNS, rules.MAX_DEPTH, rules.MAX_STANDS], [200, 40, 20, 5000])
        self.assertEqual([answerers.MAX_LOGS, answerers.MAX_FILLINGS, monitors.MAX_TIME], [12, 1000, 10 ** 9])

    def test_generators(self):
        for call in (logs.growths, logs.shrinkings, logs.Growth.steps, patterns.patterns, logsets.Logs.listed, towers.rounds,
                     swings.walk, answerers.fillings, monitors.Monitor.rings, shell.Shell.run_all):
            self.assertTrue(inspect.isgeneratorfunction(call))

    def test_growth(self):
        own = vars(logs.Growth)
        self.assertEqual(str(inspect.signature(logs.Growth)), "(log, *insertions)")
        self.assertEqual(str(inspect.signature(logs.Growth.between)), "(log, other)")
        self.assertIsInstance(own["between"], classmethod)
        for name in ("begin", "end", "kept"):
            self.assertIsInstance(own[name], property)
        for name in ("__call__", "__add__", "__len__", "__eq__", "__str__", "origin", "steps"):
            self.assertIn(name, own)

    def check_class(self, owner, text, class_methods, properties, operators):
        own = vars(owner)
        found = [str(inspect.signature(owner))]
        for name in [part.split("(")[0].split()[-1] for part in text.split(")")[1:-1]]:
            self.assertIn(name, own)
            self.assertEqual(isinstance(own[name], classmethod), name in class_methods)
            found.append(name + str(inspect.signature(getattr(owner, name))))
        self.assertEqual(", ".join(found), " ".join(text.split()))
        for name in properties.split():
            self.assertIsInstance(own[name], property)
        for name in operators.split():
            self.assertIn(f"__{name}__", own)

    def test_logs(self):
        self.check_class(logsets.Logs, LOGS, ("listing", "listing_of", "everything", "nothing", "sized"), "letters machine",
                         "or and sub xor invert contains bool len eq str call")

    def test_keeper(self):
        self.check_class(histories.Keeper, KEEPER, (), "judge log answer flips history answers", "len bool call contains eq str")

    def test_rival(self):
        self.check_class(swings.Rival, RIVAL, (), "history answers left", "len str")

    def test_ladder(self):
        self.check_class(ladders.Ladder, LADDER, ("listing",), "letters first_answer other_answer rungs", "call len eq str")

    def test_monitor(self):
        self.check_class(monitors.Monitor, MONITOR, (), "judge answer flips events log closed late closed_to groups",
                         "call len contains getitem iter eq str")
        with self.assertRaises(TypeError):
            list(monitors.Monitor((("a",), ((0,),), ("no",))))

    def test_shell(self):
        self.check_class(shell.Shell, SHELL, (), "", "len contains")


class FilesTest(unittest.TestCase):

    def test_files(self):
        for path in sources():
            self.assertEqual(path.suffix, ".py")
            text = path.read_text()
            self.assertTrue(text.isascii())
            self.assertNotIn("\t", text)
            lines = text.splitlines()
            self.assertLessEqual(len(lines), 399)
            self.assertLessEqual(max(map(len, lines)), 120)
        for folder in [PACKAGE] + [path for path in PACKAGE.iterdir() if path.is_dir() and path.name != "__pycache__"]:
            self.assertTrue((folder / "__init__.py").is_file())

    def test_functions_are_small(self):
        for name, tree in trees():
            for node in ast.walk(tree):
                if isinstance(node, ast.FunctionDef):
                    self.assertLessEqual(node.end_lineno - node.lineno + 1, 40, (name, node.name))

    def test_imports(self):
        for name, tree in trees():
            for node in ast.walk(tree):
                self.assertNotIsInstance(node, ast.Import, name)
                if isinstance(node, ast.ImportFrom):
                    self.assertIn(node, tree.body)
                    self.assertEqual((node.level, node.module.split(".")[0]), (0, "seldomflip"))
                    for alias in node.names:
                        self.assertNotEqual(alias.name, "*")
                        self.assertIsNone(alias.asname)

    def test_imported_from_the_file_that_defines_it(self):
        for _, tree in trees():
            for node in tree.body:
                if isinstance(node, ast.ImportFrom):
                    path = PACKAGE.parent.joinpath(*node.module.split(".")).with_suffix(".py")
                    own = [one for one in ast.parse(path.read_text()).body if not isinstance(one, ast.ImportFrom)]
                    names = {getattr(one, "name", None) for one in own}
                    names |= {one.targets[0].id for one in own if isinstance(one, ast.Assign)}
                    for alias in node.names:
                        self.assertIn(alias.name, names)

    def test_no_unused_words(self):
        for name, tree in trees():
            for node in ast.walk(tree):
                for word in (getattr(node, "id", None), getattr(node, "attr", None), getattr(node, "arg", None)):
                    self.assertNotIn(word, NO_WORDS, name)
                self.assertNotIsInstance(node, (ast.Global, ast.Set, ast.GeneratorExp, ast.Lambda), name)

    def test_only_own_errors_are_caught(self):
        for name, tree in trees():
            for node in ast.walk(tree):
                if isinstance(node, ast.ExceptHandler):
                    for one in node.type.elts if isinstance(node.type, ast.Tuple) else [node.type]:
                        self.assertIn(one.id, vars(errors), name)

    def test_names_of_generators_are_used_once(self):
        makers, others = [], []
        for _, tree in trees():
            for node in ast.walk(tree):
                if isinstance(node, ast.FunctionDef):
                    is_maker = any(isinstance(one, (ast.Yield, ast.YieldFrom)) for one in ast.walk(node))
                    (makers if is_maker else others).append(node.name)
        self.assertEqual(sorted(set(makers)), sorted(makers))
        self.assertFalse(set(makers) & set(others))


if __name__ == "__main__":
    unittest.main()

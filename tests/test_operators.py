"""What operators, properties and the like reach by name: nothing there changes what it did not create itself."""

import ast
import builtins
import unittest

from test_form import PACKAGE, sources

CHANGING = ("append", "pop", "extend", "insert", "remove", "clear", "reverse", "setdefault", "update", "sort", "add", "discard")
ROOTS = ("add", "sub", "and", "or", "xor", "invert", "bool", "contains", "getitem", "eq", "str", "repr", "len")
FRESH = (ast.List, ast.Dict, ast.ListComp, ast.DictComp)
FRESH_CALLS = ("list", "dict", "set", "sorted")


class Code:
    """The functions, methods and classes of the package by their names."""

    def __init__(self, texts):
        self.names, self.functions, self.properties = {}, {}, {}
        for module, text in texts.items():
            known = self.names.setdefault(module, {})
            tree = ast.parse(text)
            for node in tree.body:
                if isinstance(node, ast.ImportFrom):
                    for alias in node.names:
                        known[alias.name] = (node.module, alias.name)
                elif isinstance(node, (ast.FunctionDef, ast.ClassDef)):
                    known[node.name] = (module, node)
            for node in ast.walk(tree):
                if isinstance(node, ast.FunctionDef):
                    self.add(module, node)

    def add(self, module, node):
        """Adds a function, however deep it is nested, or a method."""
        is_property = any(isinstance(each, ast.Name) and each.id == "property" for each in node.decorator_list)
        (self.properties if is_property else self.functions).setdefault(node.name, []).append((module, node))

    def named(self, module, name):
        """The functions that a name stands for in a module."""
        found = self.names.get(module, {}).get(name)
        while found is not None and isinstance(found[1], str):
            found = self.names.get(found[0], {}).get(found[1])
        if found is None:
            return []
        if isinstance(found[1], ast.ClassDef):
            return [(found[0], one) for one in found[1].body if isinstance(one, ast.FunctionDef) and one.name == "__init__"]
        return [found]

    def called(self, name):
        """The functions and methods of this name, whatever module they stand in."""
        return self.functions.get(name, []) + self.properties.get(name, [])

    def reached(self):
        """All that operators and properties call, however far down."""
        stack = [one for name in ROOTS for one in self.functions.get(f"__{name}__", [])]
        stack += [one for found in self.properties.values() for one in found]
        found = []
        while stack:
            module, node = stack.pop()
            if not any(node is other for _, other in found):
                found.append((module, node))
                classes = [one for each in ast.walk(node) if isinstance(each, ast.Call) for one in each.args[1:]
                           if isinstance(each.func, ast.Name) and each.func.id == "isinstance"]
                for each in ast.walk(node):
                    if isinstance(each, ast.Name) and each not in classes:
                        stack += self.named(module, each.id)
                    if isinstance(each, ast.Call) and isinstance(each.func, ast.Name):
                        stack += self.called(each.func.id)
                    if isinstance(each, ast.Attribute):
                        stack += self.called(each.attr)
        return found


def is_fresh(value):
    """Whether the value is plainly a list or dict that was made just now."""
    if isinstance(value, ast.Call):
        return isinstance(value.func, ast.Name) and value.func.id in FRESH_CALLS
    return isinstance(value, FRESH) or (isinstance(value, ast.Subscript) and isinstance(value.slice, ast.Slice))


def begin_of(value):
    """The name at which items, attributes and set defaults begin."""
    while not isinstance(value, ast.Name):
        if isinstance(value, ast.Call) and isinstance(value.func, ast.Attribute):
            value = value.func
        if not isinstance(value, (ast.Subscript, ast.Attribute)):
            return None
        value = value.value
    return value.id


def changes(node):
    """The lines of a function at which it changes something that it did not create."""
    values = {}
    for each in ast.walk(node):
        if isinstance(each, ast.Assign) and isinstance(each.targets[0], ast.Name):
            values.setdefault(each.targets[0].id, []).append(each.value)
    own = [name for name in values if all(is_fresh(value) for value in values[name])]
    found = []
    for each in ast.walk(node):
        targets = []
        if isinstance(each, ast.Assign):
            targets = [one for target in each.targets for one in ast.walk(target)]
        elif isinstance(each, ast.AugAssign):
            if isinstance(each.target, ast.Name) and not isinstance(each.op, (ast.Add, ast.Sub, ast.FloorDiv)):
                found.append(each.lineno)
            targets = [each.target]
        elif isinstance(each, ast.Delete):
            targets = each.targets
        for target in targets:
            is_own = node.name == "__init__" and isinstance(target, ast.Attribute) and begin_of(target) == "self"
            if isinstance(target, (ast.Subscript, ast.Attribute)) and not is_own and begin_of(target) not in own:
                found.append(each.lineno)
        if isinstance(each, ast.Call) and isinstance(each.func, ast.Attribute) and each.func.attr in CHANGING:
            if begin_of(each.func.value) not in own:
                found.append(each.lineno)
    return found


def held_calls(code, module, node):
    """The lines of a function at which it calls something that it is handed or holds."""
    found = []
    for each in ast.walk(node):
        if isinstance(each, ast.Call) and isinstance(each.func, ast.Name):
            name = each.func.id
            if not code.named(module, name) and not hasattr(builtins, name) and name not in code.names[module] and name != "cls":
                found.append(each.lineno)
    return found


def changed_lines(code):
    """The modules' lines at which something is changed that was not created there."""
    return [line for _, node in code.reached() for line in changes(node)]


class OperatorsTest(unittest.TestCase):

    def package(self):
        return Code({".".join(path.relative_to(PACKAGE.parent).with_suffix("").parts): path.read_text() for path in sources()})

    def test_nothing_is_changed(self):
        code = self.package()
        reached = code.reached()
        self.assertGreater(len(reached), 60)
        for module, node in reached:
            self.assertEqual(changes(node), [], (module, node.name))
            self.assertEqual(held_calls(code, module, node), [], (module, node.name))

    def test_methods_by_their_names(self):
        # a call of a method that only shares its name with one of the package counts, too
        text = ("class Box:\n    def count(self):\n        stack = [] if self else [1]\n        stack.pop()\n"
                "    def __or__(self, other):\n        return helper(other)\n"
                "def helper(rows):\n    return rows.count(1)\n")
        code = Code({"box": text})
        self.assertEqual(changed_lines(code), [4])
        call = "class Box:\n    def __len__(self):\n        return len(self.rows)\n    def __eq__(self, other):\n        return other(1)\n"
        code = Code({"box": call})
        self.assertEqual([line for module, node in code.reached() for line in held_calls(code, module, node)], [5])

    def test_functions_by_their_names(self):
        # a function that only shares its name with the one that is called counts, in whatever module it stands
        box = ("def told(rows):\n    return len(rows)\n"
               "class Box:\n    def __invert__(self):\n        return told(self.rows)\n")
        other = "def told(rows):\n    return Play(rows).go()\nclass Play:\n    def go(self):\n        self.n = 1\n"
        nested = "def play(rows):\n    def told(at):\n        rows[at] = 1\n    return told\n"
        self.assertEqual(changed_lines(Code({"box": box})), [])
        self.assertEqual(changed_lines(Code({"box": box, "other": other})), [5])
        self.assertEqual(changed_lines(Code({"box": box, "other": nested})), [3])


if __name__ == "__main__":
    unittest.main()

"""What operators of the package run: it changes and calls nothing that it did not make itself.

Calls are followed by bare names, in whatever file, and so is what stands behind a dot.
"""

import ast
import builtins
import unittest

from tests.test_language import TREES, called_name, functions, parents

OPERATORS = {"__or__", "__and__", "__contains__", "__eq__", "__len__"}
MODIFYING = {"append", "extend", "update", "remove", "pop", "insert", "clear", "setdefault", "reverse", "add", "discard", "sort"}
MAKING = {"list", "dict", "set", "sorted"}


def places():
    """The dict from bare names to all functions and methods called so, and to what makes classes called so."""
    found = {}
    for name, tree in TREES.items():
        for node in ast.walk(tree):
            if isinstance(node, ast.FunctionDef):
                found.setdefault(node.name, []).append((name, node))
            if isinstance(node, ast.ClassDef):
                for item in node.body:
                    if isinstance(item, ast.FunctionDef) and item.name == "__init__":
                        found.setdefault(node.name, []).append((name, item))
    return found


def attributes():
    """The names of all attributes that something of the package assigns."""
    return {node.attr for tree in TREES.values() for node in ast.walk(tree)
            if isinstance(node, ast.Attribute) and isinstance(node.ctx, ast.Store)}


def run_by_operators():
    """The list of all functions that operators come to, each with its file."""
    known = places()
    row = [(name, node) for name, tree in TREES.items() for node in functions(tree) if node.name in OPERATORS]
    for name, node in row:
        for item in ast.walk(node):
            word = called_name(item)
            for further in known.get(word, []):
                if further not in row:
                    row.append(further)
    return row


def is_made(value):
    """Whether an expression surely makes a list, dict or set of its own."""
    if isinstance(value, ast.BinOp) and isinstance(value.op, ast.Add):
        return is_made(value.left) or is_made(value.right)
    if isinstance(value, ast.Subscript):
        return isinstance(value.slice, ast.Slice)
    return (isinstance(value, (ast.List, ast.Dict, ast.ListComp, ast.DictComp, ast.SetComp))
            or isinstance(value, ast.Call) and isinstance(value.func, ast.Name) and value.func.id in MAKING)


def is_made_throughout(value):
    """Whether an expression makes what has only things of its own making."""
    if isinstance(value, ast.ListComp):
        return is_made(value.elt)
    if isinstance(value, ast.DictComp):
        return is_made(value.value)
    return isinstance(value, (ast.List, ast.Dict)) and not list(ast.iter_child_nodes(value))[:-1]


def assigned(function, word):
    """What a function assigns to a name, None for what no plain assignment does."""
    values = [None for item in ast.walk(function.args) if isinstance(item, ast.arg) and item.arg == word]
    above = parents(function)
    for node in ast.walk(function):
        if isinstance(node, ast.Name) and isinstance(node.ctx, ast.Store) and node.id == word:
            plain = isinstance(above[node], ast.Assign)
            values.append(above[node].value if plain else None)
    return values


class Operators(unittest.TestCase):
    def test_they_come_to_what_they_make(self):
        names = {(name, node.name) for name, node in run_by_operators()}
        for wanted in (("trees", "checked_placings"), ("ways", "reached"), ("lots", "check_lacks"), ("pages", "checked_dead"),
                       ("patches", "checked_orders"), ("kinds", "is_name")):
            self.assertIn(wanted, names)
        self.assertNotIn(("lots", "names"), names)

    def test_calls(self):
        stored = attributes()
        known = places()
        for name, function in run_by_operators():
            for node in ast.walk(function):
                if not isinstance(node, ast.Call):
                    continue
                where = (name, function.name, node.lineno)
                if isinstance(node.func, ast.Attribute):
                    self.assertNotIn(node.func.attr, stored, where)
                else:
                    self.assertTrue(node.func.id in known or hasattr(builtins, node.func.id), where)
                self.assertNotIn(called_name(node), ("iter", "next", "map", "setattr"), where)

    def test_changes(self):
        for name, function in run_by_operators():
            for node in ast.walk(function):
                where = (name, function.name, getattr(node, "lineno", None))
                if isinstance(node, ast.Call) and isinstance(node.func, ast.Attribute) and node.func.attr in MODIFYING:
                    self.check_made(function, node.func.value, where)
                if isinstance(node, (ast.Subscript, ast.Attribute)) and not isinstance(node.ctx, ast.Load):
                    if isinstance(node, ast.Attribute):
                        self.assertEqual([function.name, node.value.id], ["__init__", "self"], where)
                    else:
                        self.check_made(function, node.value, where)
                if isinstance(node, ast.AugAssign):
                    self.assertIsInstance(node.target, ast.Name, where)
                    self.assertIs(type(node.value.value), int, where)
                self.assertNotIsInstance(node, (ast.Delete, ast.Yield, ast.Try, ast.Lambda), where)

    def check_made(self, function, thing, where):
        within = is_made
        if isinstance(thing, ast.Subscript):
            thing, within = thing.value, is_made_throughout
        self.assertIsInstance(thing, ast.Name, where)
        values = assigned(function, thing.id)
        self.assertTrue(values and all(value is not None and within(value) for value in values), where)


if __name__ == "__main__":
    unittest.main()

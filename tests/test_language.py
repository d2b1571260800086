"""The form of the package: what a walk through its syntax trees can see of the language's rules."""

import ast
import builtins
import pathlib
import re
import unittest

FOLDER = pathlib.Path(__file__).resolve().parent.parent / "patchlots"
FILES = sorted(FOLDER.glob("*.py"))
TREES = {path.stem: ast.parse(path.read_text(encoding="utf-8")) for path in FILES}

NODES = (
    ast.Module, ast.ImportFrom, ast.alias, ast.FunctionDef, ast.ClassDef, ast.arguments, ast.arg, ast.Return,
    ast.Assign, ast.AugAssign, ast.For, ast.While, ast.If, ast.Raise, ast.Expr, ast.Name, ast.Constant, ast.Attribute,
    ast.Subscript, ast.Slice, ast.Call, ast.List, ast.Tuple, ast.Dict, ast.ListComp, ast.DictComp, ast.SetComp,
    ast.comprehension, ast.BoolOp, ast.BinOp, ast.UnaryOp, ast.Compare, ast.IfExp, ast.JoinedStr, ast.FormattedValue,
    ast.Starred, ast.keyword, ast.Try, ast.expr_context, ast.boolop, ast.operator, ast.unaryop, ast.cmpop,
)
BUILTINS = set("""len range enumerate zip min max sum sorted reversed str list tuple set isinstance any all""".split())
KINDS = {"str", "int", "bool", "list", "tuple", "dict"}
METHODS = set("""append count extend index items join partition pop remove split startswith endswith update values
get add""".split())
SPECIAL = {"__init__", "__eq__", "__len__", "__or__", "__and__", "__contains__"}
AT_ONCE = {"zip", "enumerate", "reversed", "range", "items", "keys", "values"}
HOLDERS = {"list", "tuple", "dict", "sorted", "sum", "any", "all", "enumerate", "zip"}
WORDS = set("""type typing typing_extensions enum Enum IntEnum StrEnum Flag IntFlag Generic Protocol ABC ABCMeta
namedtuple NamedTuple TypedDict TYPE_CHECKING abstractmethod dataclass overload contextmanager register mro elements
open input law version_info with_traceback add_note""".split())


def defined(tree):
    return {node.name for node in tree.body if isinstance(node, (ast.FunctionDef, ast.ClassDef))}


def constants(tree):
    return [target.id for node in tree.body if isinstance(node, ast.Assign) for target in node.targets]


def imported(tree):
    return [alias.name for node in tree.body if isinstance(node, ast.ImportFrom) for alias in node.names]


def functions(tree):
    return [node for node in ast.walk(tree) if isinstance(node, ast.FunctionDef)]


def called_name(node):
    if not isinstance(node, ast.Call):
        return None
    return node.func.id if isinstance(node.func, ast.Name) else node.func.attr


def parents(tree):
    return {child: node for node in ast.walk(tree) for child in ast.iter_child_nodes(node)}


class Language(unittest.TestCase):
    def walk(self):
        for name, tree in TREES.items():
            for node in ast.walk(tree):
                yield name, node

    def test_files(self):
        others = [path.name for path in FOLDER.iterdir() if path.suffix != ".py" and path.name != "__pycache__"]
        self.assertEqual(others, [])
        self.assertIn("__init__", TREES)
        self.assertLessEqual(len(FILES), 100)
        for path in FILES:
            self.assertRegex(path.name, r"^(__init__|[a-z][a-z0-9]*)\.py$")
            text = path.read_bytes().decode("ascii")
            self.assertTrue(all(sign == "\n" or " " <= sign <= "~" for sign in text), path)
            rows = text.splitlines()
            self.assertLessEqual(len(rows), 399, path)
            self.assertLessEqual(max(map(len, rows)), 120, path)
            self.assertIsNotNone(ast.get_docstring(TREES[path.stem]), path)

    def test_sizes_of_functions(self):
        for name, tree in TREES.items():
            for node in functions(tree):
                self.assertLessEqual(node.end_lineno - node.lineno + 1, 40, (name, node.name))
                self.assertEqual([node.decorator_list, node.returns], [[], None])

    def test_nodes(self):
        for name, node in self.walk():
            self.assertIsInstance(node, NODES, (name, getattr(node, "lineno", None)))
            self.assertNotIsInstance(node, (ast.Div, ast.MatMult, ast.Pow, ast.Mod))
            if isinstance(node, ast.arg):
                self.assertIsNone(node.annotation)
            if isinstance(node, ast.Constant):
                self.assertIn(type(node.value), (int, str, bool, type(None)))
            if isinstance(node, ast.AugAssign):
                self.assertIsInstance(node.value, ast.Constant)
                self.assertIsInstance(node.target, ast.Name)

    def test_trying(self):
        """What is tried is done behind all the same: no error is caught, and plain names are told again."""
        for name, node in self.walk():
            if isinstance(node, ast.Try):
                self.assertEqual([node.handlers, node.orelse], [[], []], name)
                for row in node.finalbody:
                    self.assertIsInstance(row, ast.Assign)
                    self.assertIsInstance(row.targets[0], ast.Attribute)
                    self.assertIsInstance(row.value, ast.Name)

    def test_stars(self):
        for name, tree in TREES.items():
            above = parents(tree)
            for node in ast.walk(tree):
                if isinstance(node, ast.Starred) and isinstance(above[node], ast.Call):
                    self.assertEqual(above[node].keywords, [], name)
                    for item in above[node].args[above[node].args.index(node):]:
                        told = item.value if isinstance(item, ast.Starred) else item
                        self.assertIsInstance(told, (ast.Name, ast.Constant), (name, node.lineno))
                if isinstance(node, ast.Starred):
                    self.assertIsInstance(above[node], (ast.Call, ast.List, ast.Tuple), (name, node.lineno))

    def test_module_level(self):
        for name, tree in TREES.items():
            for node in tree.body[1:]:
                self.assertIsInstance(node, (ast.ImportFrom, ast.FunctionDef, ast.ClassDef, ast.Assign), name)
                if isinstance(node, ast.Assign):
                    ast.literal_eval(node.value)
            kinds = [isinstance(node, ast.ImportFrom) for node in tree.body[1:]]
            self.assertEqual(kinds, sorted(kinds, reverse=True), name)
            names = imported(tree) + constants(tree) + sorted(defined(tree))
            self.assertEqual(len(names), len(set(names)), name)

    def test_imports(self):
        leads = {}
        for name, tree in TREES.items():
            leads[name] = []
            for node in tree.body:
                if isinstance(node, ast.ImportFrom):
                    package, _, file = node.module.partition(".")
                    self.assertEqual([package, node.level], ["patchlots", 0])
                    leads[name].append(file)
                    for alias in node.names:
                        self.assertIsNone(alias.asname)
                        self.assertIn(alias.name, defined(TREES[file]) | set(constants(TREES[file])))
        while leads:
            free = [name for name in leads if not set(leads[name]) & set(leads)]
            self.assertNotEqual(free, [], "files that import from each other")
            for name in free:
                del leads[name]

    def test_imported_names_are_used(self):
        for name, tree in TREES.items():
            used = {node.id for node in ast.walk(tree) if isinstance(node, ast.Name)}
            self.assertEqual([word for word in imported(tree) if word not in used], [], name)

    def test_names(self):
        for name, tree in TREES.items():
            barred = set(dir(builtins)) | set(imported(tree)) | defined(tree)
            for node in functions(tree):
                assigned = {item.id for item in ast.walk(node)
                            if isinstance(item, ast.Name) and isinstance(item.ctx, ast.Store)}
                assigned |= {item.arg for item in ast.walk(node) if isinstance(item, ast.arg)}
                for word in assigned:
                    self.assertNotIn(word, barred, (name, node.name))
                    self.assertRegex(word, r"^(_|[a-z][a-z0-9_]*)$")
            for word in defined(tree):
                self.assertNotIn(word, dir(builtins))
            for node in ast.walk(tree):
                if isinstance(node, ast.Name) and node.id == "_":
                    self.assertIsInstance(node.ctx, ast.Store, name)

    def test_calls(self):
        methods = {item.name for tree in TREES.values() for node in tree.body if isinstance(node, ast.ClassDef)
                   for item in node.body if isinstance(item, ast.FunctionDef)}
        for name, tree in TREES.items():
            own = defined(tree) | set(imported(tree))
            for node in ast.walk(tree):
                if not isinstance(node, ast.Call):
                    continue
                if isinstance(node.func, ast.Name):
                    if node.func.id == "work":
                        continue
                    self.assertIn(node.func.id, own | BUILTINS, (name, node.lineno))
                    if node.func.id in BUILTINS:
                        self.assertTrue({word.arg for word in node.keywords} <= {"key", "default", "reverse"})
                else:
                    self.assertIn(node.func.attr, methods | METHODS, (name, node.lineno))

    def test_builtins_are_called_not_kept(self):
        for name, tree in TREES.items():
            above = parents(tree)
            for node in ast.walk(tree):
                if isinstance(node, ast.Name) and node.id in dir(builtins) and node.id != "ValueError":
                    holder = above[node]
                    if isinstance(holder, ast.Tuple):
                        holder = above[holder]
                    self.assertIsInstance(holder, ast.Call, (name, node.lineno))
                    if holder.func is not node:
                        self.assertEqual([called_name(holder), node.id in KINDS], ["isinstance", True])

    def test_iterated_at_once(self):
        for name, tree in TREES.items():
            above = parents(tree)
            for node in ast.walk(tree):
                if called_name(node) in AT_ONCE:
                    holder = above[node]
                    good = isinstance(holder, (ast.For, ast.comprehension)) and holder.iter is node
                    if called_name(holder) in HOLDERS and isinstance(holder.func, ast.Name):
                        good = good or called_name(holder) == "zip" or holder.args[0] is node
                    if called_name(node) == "range":
                        good = good or called_name(holder) in ("len", "reversed")
                    elif called_name(holder) in ("min", "max"):
                        good = not any(word.arg == "key" for word in holder.keywords)
                    self.assertTrue(good, (name, node.lineno))

    def test_nothing_iterated_is_modified(self):
        for name, node in self.walk():
            if isinstance(node, ast.For):
                over = {item.id for item in ast.walk(node.iter) if isinstance(item, ast.Name)}
                for item in ast.walk(node):
                    if isinstance(item, ast.Call) and isinstance(item.func, ast.Attribute):
                        if item.func.attr in ("append", "extend", "remove", "pop", "update", "add"):
                            self.assertNotIn(ast.unparse(item.func.value), over, (name, item.lineno))
                    if isinstance(item, ast.Subscript) and isinstance(item.ctx, ast.Store):
                        self.assertNotIn(ast.unparse(item.value), over, (name, item.lineno))

    def test_sets(self):
        for name, tree in TREES.items():
            above = parents(tree)
            for node in ast.walk(tree):
                if not isinstance(node, ast.SetComp) and called_name(node) != "set":
                    continue
                holder = above[node]
                if isinstance(holder, ast.Assign):
                    self.check_stored_set(name, holder, above)
                else:
                    self.assertIn(called_name(holder), ("sorted", "len"), (name, node.lineno))
                    self.assertEqual(holder.keywords, [], (name, node.lineno))

    def check_stored_set(self, name, row, above):
        word = row.targets[0].id
        scope = above[row]
        while not isinstance(scope, ast.FunctionDef):
            scope = above[scope]
        uses = [node for node in ast.walk(scope) if isinstance(node, ast.Name) and node.id == word]
        self.assertEqual(sum(isinstance(node.ctx, ast.Store) for node in uses), 1, (name, word))
        for node in uses:
            holder = above[node]
            if isinstance(holder, ast.Attribute):
                self.assertEqual(holder.attr, "add")
                self.assertIsInstance(above[above[holder]], ast.Expr)
            elif isinstance(holder, ast.Compare):
                self.assertIsInstance(holder.ops[0], (ast.In, ast.NotIn))
                self.assertIs(holder.comparators[0], node)
            elif not isinstance(holder, ast.Assign):
                self.assertIn(called_name(holder), ("sorted", "len"), (name, node.lineno))

    def test_names_in_comprehensions(self):
        """Within another comprehension a variable has a name of its own."""
        kinds = (ast.ListComp, ast.DictComp, ast.SetComp)

        def stored(node):
            return {item.id for item in ast.walk(node) if isinstance(item, ast.Name) and isinstance(item.ctx, ast.Store)} - {"_"}

        for name, tree in TREES.items():
            for function in functions(tree):
                made = [node for node in ast.walk(function) if isinstance(node, kinds)]
                within = {item for node in made for item in ast.walk(node)}
                plain = {item.id for item in ast.walk(function) if isinstance(item, ast.Name)
                         and isinstance(item.ctx, ast.Store) and item not in within}
                plain |= {item.arg for item in ast.walk(function) if isinstance(item, ast.arg)}
                for inner in made:
                    around = [node for node in made if node is not inner and inner in set(ast.walk(node))]
                    own = set().union(*[stored(part.target) for part in inner.generators])
                    if around:
                        further = [stored(part.target) for node in around for part in node.generators]
                        self.assertEqual(own & plain.union(*further), set(), (name, inner.lineno))

    def test_is_and_none(self):
        for name, node in self.walk():
            if isinstance(node, ast.Compare):
                for sign, thing in zip(node.ops, node.comparators):
                    if isinstance(sign, (ast.Is, ast.IsNot)):
                        self.assertTrue(isinstance(thing, ast.Constant) and thing.value in (None, True, False), name)
            if isinstance(node, ast.Raise):
                self.assertIsInstance(node.exc, ast.Call)
                self.assertIn(called_name(node.exc), defined(TREES["errors"]))

    def test_classes(self):
        own = {}
        for name, tree in TREES.items():
            for node in tree.body:
                if isinstance(node, ast.ClassDef):
                    names = [item.name for item in node.body if isinstance(item, ast.FunctionDef)]
                    self.assertEqual(len(names), len(set(names)), node.name)
                    self.assertTrue({word for word in names if word.startswith("__")} <= SPECIAL, node.name)
                    own[node.name] = set(names)
        for name, tree in TREES.items():
            for node in tree.body:
                if isinstance(node, ast.ClassDef):
                    attributes = {item.attr for item in ast.walk(node) if isinstance(item, ast.Attribute)
                                  and isinstance(item.ctx, ast.Store)}
                    self.assertEqual(attributes & own[node.name], set(), name)

    def test_words(self):
        for path in FILES:
            tree = TREES[path.stem]
            told = {node.id for node in ast.walk(tree) if isinstance(node, ast.Name)}
            told |= {node.attr for node in ast.walk(tree) if isinstance(node, ast.Attribute)}
            told |= {node.arg for node in ast.walk(tree) if isinstance(node, (ast.arg, ast.keyword))}
            told |= {node.name for node in ast.walk(tree) if isinstance(node, (ast.FunctionDef, ast.ClassDef))}
            self.assertEqual(told & WORDS, set(), path)
            text = path.read_text(encoding="utf-8")
            for word in ("_wall", "%", "\\x", "\\u", "lambda", "global ", "yield"):
                self.assertNotIn(word, text, path)
            self.assertIsNone(re.search(r"\\[^n\\\"']", text), path)


if __name__ == "__main__":
    unittest.main()

"""The form of the package's files: sizes, characters, imports, names and what is not used."""

import ast
import builtins
import pathlib
import re
import unittest

from cleandress import errors
from tests.loops import changed_while_walked

ROOT = pathlib.Path(__file__).resolve().parent.parent
PACKAGE = ROOT / "cleandress"
LIBRARY = ("heapq", "math", "itertools", "collections")
BARRED = ("Global", "AsyncFunctionDef", "Await", "AsyncFor", "AsyncWith", "Div", "TryStar", "Set", "SetComp", "GeneratorExp",
          "AnnAssign", "Match", "NamedExpr", "Nonlocal", "Delete", "Assert")
CALLED = ("len", "range", "enumerate", "zip", "min", "max", "sum", "abs", "sorted", "reversed", "int", "str", "bool", "list",
          "tuple", "dict", "set", "isinstance", "ord", "repr", "any", "all", "divmod", "iter")
ERRORS = ("ValueError", "TypeError", "KeyError", "IndexError", "LookupError", "ArithmeticError", "OverflowError")
METHODS = ("append", "count", "endswith", "extend", "find", "get", "index", "insert", "items", "join", "keys", "pop", "replace",
           "rstrip", "setdefault", "split", "startswith", "strip", "values")
NOT_NAMES = ("register", "mro", "elements", "open", "input", "law", "eval", "exec", "exit", "gc", "globals", "help", "id", "locals",
             "os", "quit", "type", "vars", "dir", "compile", "license", "copyright", "credits", "builtins")
WORDS = re.compile(r"\b(type|typing|enum|Enum|Generic|Protocol|ABC|namedtuple|NamedTuple|TypedDict)\b|dataclass|overload|contextmanager|Meta")
OPERATORS = ("__init__", "__eq__", "__len__", "__str__", "__iter__", "__contains__", "__getitem__", "__call__", "__add__",
             "__enter__", "__exit__")


def files():
    return sorted([path for path in PACKAGE.rglob("*") if path.is_file() and "__pycache__" not in path.parts])


def trees():
    return [(path, ast.parse(path.read_text("ascii"))) for path in files()]


def nodes():
    return [(path, node) for path, tree in trees() for node in ast.walk(tree)]


def functions():
    return [(path, node) for path, node in nodes() if isinstance(node, ast.FunctionDef)]


def module_of(path):
    return ".".join(path.relative_to(ROOT).with_suffix("").parts).removesuffix(".__init__")


def bound_names(node):
    """The names that a node binds: a function, a class, an argument or a target."""
    if isinstance(node, (ast.FunctionDef, ast.ClassDef)):
        return [node.name]
    if isinstance(node, ast.arg):
        return [node.arg]
    if isinstance(node, ast.Name) and isinstance(node.ctx, ast.Store):
        return [node.id]
    return []


class Files(unittest.TestCase):
    def test_files(self):
        self.assertTrue(files())
        self.assertLessEqual(len(files()), 100)
        for path in files():
            self.assertEqual(path.suffix, ".py", path)
            self.assertRegex(path.name, "^[a-z0-9_]+[.]py$")
            self.assertTrue((path.parent / "__init__.py").is_file(), path)
            self.assertFalse((path.parent / path.stem).is_dir(), path)
            self.assertFalse(path.name.startswith(("test", "law_")), path)
            self.assertFalse(path.stem in dir(builtins) and path.stem != "__init__", path)

    def test_lines_and_characters(self):
        for path in files():
            text = path.read_bytes().decode("ascii")
            lines = text.split("\n")
            self.assertLessEqual(len(lines), 400, path)
            for line in lines:
                self.assertLessEqual(len(line), 120, path)
                self.assertTrue(all(" " <= character <= "~" for character in line), (path, line))

    def test_functions_are_small(self):
        for path, node in functions():
            self.assertLessEqual(node.end_lineno - node.lineno + 1, 40, (path, node.name))

    def test_docstrings(self):
        for path, tree in trees():
            self.assertTrue(ast.get_docstring(tree), path)
        for path, node in functions():
            if not node.name.startswith("__"):
                self.assertTrue(ast.get_docstring(node), (path, node.name))


class Imports(unittest.TestCase):
    def defined(self, tree):
        names = [name for node in tree.body for name in bound_names(node)]
        return names + [target.id for node in tree.body if isinstance(node, ast.Assign) for target in node.targets]

    def test_imports(self):
        found = {module_of(path): (path, tree) for path, tree in trees()}
        for path, tree in trees():
            for node in ast.walk(tree):
                self.assertNotIsInstance(node, ast.Import, path)
                if isinstance(node, ast.ImportFrom):
                    self.assertIn(node, tree.body, path)
                    self.assertEqual(node.level, 0, path)
                    self.assertIn(node.module.split(".")[0], ("cleandress",) + LIBRARY, path)
                    for name in node.names:
                        self.assertIsNone(name.asname, path)
                        if node.module.startswith("cleandress"):
                            # The very file that defines the name is named.
                            self.assertIn(name.name, self.defined(found[node.module][1]), (path, node.module))

    def test_imports_are_used(self):
        for path, tree in trees():
            names = [name.name for node in ast.walk(tree) if isinstance(node, ast.ImportFrom) for name in node.names]
            read = [node.id for node in ast.walk(tree) if isinstance(node, ast.Name)]
            for name in names:
                self.assertIn(name, read, path)
                self.assertEqual(names.count(name), 1, path)

    def test_no_two_files_import_from_each_other(self):
        found = {}
        for path, tree in trees():
            found[module_of(path)] = [node.module for node in ast.walk(tree) if isinstance(node, ast.ImportFrom)]
        left = dict(found)
        while left:
            free = [name for name in left if not any(other in left for other in left[name])]
            self.assertTrue(free, left)
            for name in free:
                del left[name]


class Names(unittest.TestCase):
    def test_no_builtin_is_bound(self):
        for path, node in nodes():
            for name in bound_names(node):
                self.assertNotIn(name, NOT_NAMES, path)
                # Examples that were run before may have left a "_" among the builtins.
                if not name.startswith("_"):
                    self.assertFalse(hasattr(builtins, name), (path, name))
                if not name.startswith("__"):
                    self.assertRegex(name, "^_?[A-Za-z][A-Za-z0-9_]*$|^_$")

    def test_no_import_or_class_is_bound_again(self):
        for path, tree in trees():
            names = [name.name for node in tree.body if isinstance(node, ast.ImportFrom) for name in node.names]
            names += [node.name for node in tree.body if isinstance(node, ast.ClassDef)]
            for node in ast.walk(tree):
                if isinstance(node, (ast.arg, ast.Name)):
                    for name in bound_names(node):
                        self.assertNotIn(name, names, path)
            once = names + [name for node in tree.body if isinstance(node, ast.FunctionDef) for name in bound_names(node)]
            self.assertEqual(len(once), len(set(once)), path)

    def test_variables_of_inner_comprehensions(self):
        # They are no names that the function, or the comprehension around them, assigns.
        kinds = (ast.ListComp, ast.DictComp)
        for path, node in functions():
            loops = [inner for inner in ast.walk(node) if isinstance(inner, kinds)]
            targets = {loop: [name for part in loop.generators for inner in ast.walk(part.target) for name in bound_names(inner)] for loop in loops}
            hidden = [inner for loop in loops for part in loop.generators for inner in ast.walk(part.target)]
            assigned = [name for inner in ast.walk(node) if inner not in hidden for name in bound_names(inner)]
            for outer in loops:
                for inner in ast.walk(outer):
                    if inner in loops and inner is not outer:
                        for name in targets[inner]:
                            self.assertNotIn(name, assigned + targets[outer], (path, node.name))

    def test_module_level_values_are_plain(self):
        for path, tree in trees():
            for node in tree.body:
                if isinstance(node, ast.Assign):
                    self.assertFalse([inner for inner in ast.walk(node.value) if isinstance(inner, (ast.Name, ast.Call))], path)

    def test_no_function_has_the_name_of_a_generator(self):
        made = [node.name for _, node in functions() if any(isinstance(inner, (ast.Yield, ast.YieldFrom)) for inner in ast.walk(node))]
        every = [node.name for _, node in functions()]
        for name in made:
            self.assertEqual(every.count(name), 1, name)
            self.assertNotIn(name, METHODS)

    def test_methods_and_attributes_are_apart(self):
        methods = [item.name for _, node in nodes() if isinstance(node, ast.ClassDef) for item in node.body if isinstance(item, ast.FunctionDef)]
        stored = [node.attr for _, node in nodes() if isinstance(node, ast.Attribute) and isinstance(node.ctx, ast.Store)]
        for name in stored:
            self.assertNotIn(name, methods)
        for name in methods:
            if name.startswith("__"):
                self.assertIn(name, OPERATORS)

    def test_attributes_that_are_read(self):
        stored = [node.attr for _, node in nodes() if isinstance(node, ast.Attribute) and isinstance(node.ctx, ast.Store)]
        methods = [node.name for _, node in functions()]
        for path, node in nodes():
            if isinstance(node, ast.Attribute) and isinstance(node.ctx, ast.Load):
                self.assertIn(node.attr, stored + methods + list(METHODS), path)


class NotUsed(unittest.TestCase):
    def test_what_is_not_used(self):
        for path, node in nodes():
            self.assertNotIn(node.__class__.__name__, BARRED, (path, getattr(node, "lineno", 0)))
            if isinstance(node, ast.Constant):
                self.assertNotIsInstance(node.value, (float, complex, bytes), path)
                if isinstance(node.value, str):
                    self.assertNotIn("%", node.value, path)
            if isinstance(node, ast.FunctionDef):
                for word in node.decorator_list:
                    self.assertIn(word.id, ("property", "classmethod"), path)
                self.assertIsNone(node.returns)

    def test_only_own_errors_are_caught(self):
        own = [name for name in dir(errors) if isinstance(getattr(errors, name), type)]
        for path, node in nodes():
            if isinstance(node, ast.ExceptHandler):
                named = node.type.elts if isinstance(node.type, ast.Tuple) else [node.type]
                self.assertTrue(all(name.id in own for name in named), path)
                self.assertIsNone(node.name, path)
            if isinstance(node, ast.Try):
                self.assertEqual(node.finalbody, [], path)

    def test_blocks(self):
        for path, node in functions():
            if node.name == "__exit__":
                for row in node.body:
                    self.assertIsInstance(row, ast.Assign, path)
                    self.assertIsInstance(row.value, ast.Attribute, path)
        for path, node in nodes():
            if isinstance(node, ast.With):
                self.assertEqual(ast.unparse(node.items[0]), "self.trial() as same", path)

    def test_words(self):
        for path in files():
            self.assertIsNone(WORDS.search(path.read_text("ascii")), path)

    def test_builtins(self):
        for path, node in nodes():
            if isinstance(node, ast.Name) and isinstance(node.ctx, ast.Load) and hasattr(builtins, node.id) and node.id != "_":
                self.assertIn(node.id, CALLED + ERRORS + ("property", "classmethod"), path)

    def test_keywords_of_builtins(self):
        for path, node in nodes():
            if isinstance(node, ast.Call) and isinstance(node.func, ast.Name) and node.func.id in CALLED:
                for word in node.keywords:
                    self.assertIn((node.func.id, word.arg), [("sorted", "key"), ("sorted", "reverse")], path)

    def test_sets_are_only_sorted_or_measured(self):
        for path, tree in trees():
            inner = [argument for node in ast.walk(tree) if isinstance(node, ast.Call) and isinstance(node.func, ast.Name)
                     and node.func.id in ("sorted", "len") for argument in node.args]
            for node in ast.walk(tree):
                if isinstance(node, ast.Call) and isinstance(node.func, ast.Name) and node.func.id == "set":
                    self.assertIn(node, inner, path)

    def test_views_are_iterated_at_once(self):
        for path, tree in trees():
            heads = []
            for node in ast.walk(tree):
                if isinstance(node, (ast.For, ast.comprehension)):
                    heads.append(node.iter)
                if isinstance(node, ast.Call) and isinstance(node.func, ast.Name) and node.func.id in CALLED:
                    heads += node.args
            for node in ast.walk(tree):
                if isinstance(node, ast.Call) and isinstance(node.func, ast.Name) and node.func.id in ("zip", "enumerate", "range", "reversed"):
                    self.assertIn(node, heads, path)
                if isinstance(node, ast.Call) and isinstance(node.func, ast.Attribute) and node.func.attr in ("items", "keys", "values"):
                    self.assertIn(node, heads, path)

    def test_is_stands_beside_none(self):
        for path, node in nodes():
            if isinstance(node, ast.Compare):
                for operator, right in zip(node.ops, node.comparators):
                    if isinstance(operator, (ast.Is, ast.IsNot)):
                        self.assertTrue(isinstance(right, ast.Constant) and right.value in (None, True, False), path)

    def test_plus_is_for_numbers_in_place(self):
        for path, node in nodes():
            if isinstance(node, ast.AugAssign):
                self.assertTrue(isinstance(node.value, ast.Constant) and isinstance(node.value.value, int), path)


# Rows of a function; a loop in each changes what it walks, by its name, a field, an item, a choice, or a name alike.
CHANGED = (
    ("level = [1]", "for _ in range(3):", "    later = []", "    for x in level:", "        later.append(x)", "    level = later"),
    ("for x in rows:", "    rows.append(x)"),
    ("for x in rows:", "    if x:", "        rows.pop()", "        return"),
    ("for x in rows:", "    rows[0] = x"),
    ("for x in rows:", "    del rows[0]"),
    ("for x in rows:", "    rows += [x]"),
    ("for x in rows:", "    heappush(rows, x)"),
    ("for at, x in enumerate(rows):", "    rows[at] = x"),
    ("for x, y in zip(others, reversed(rows)):", "    rows.insert(0, y)"),
    ("for x, y in enumerate(table.items()):", "    table.pop(x)"),
    ("for x in table.values():", "    table.setdefault(x, 1)"),
    ("for x in self.rows:", "    other.rows.append(x)"),
    ("for x in rows[0]:", "    rows[1].append(x)"),
    ("for row in rows:", "    for x in row:", "        rows[0].append(x)"),
    ("for row, _ in rows:", "    for x in row:", "        row.append(x)"),
    ("for x in rows if self else others:", "    others.append(x)"),
    ("for x in rows:", "    (self or rows).append(x)"),
    ("same = rows", "for x in rows:", "    same.append(x)"),
    ("for x in rows:", "    same = others if x else rows", "    same.append(x)"),
    ("same, at = rows, 0", "for x in same:", "    rows.clear()"),
    ("first = second = rows", "third = first", "for x in third:", "    second.append(x)"),
    ("same = self.rows", "for x in same:", "    self.rows.append(x)"),
    ("pair = others", "row = pair[0]", "for x in row:", "    others[0].append(x)"),
    ("return [rows.pop() for x in rows]",),
    ("return {x: rows.append(x) for y in others for x in rows}",),
)
# Nothing is changed here that a loop walks.
NOT_CHANGED = (
    ("level = [1]", "for _ in range(3):", "    later = []", "    for x in list(level):", "        later.append(x)", "    level = later"),
    ("for x in list(rows):", "    rows.append(x)"),
    ("for x in sorted(table):", "    table.pop(x)"),
    ("for x in rows[1:]:", "    rows.append(x)"),
    ("for x, y in list(table.items()):", "    table[x] = y"),
    ("for x in rows:", "    others.append(x)", "rows.append(1)"),
    ("for row in rows:", "    row.append(1)"),
    ("for at in range(len(rows)):", "    rows[at] = at"),
    ("same = list(rows)", "for x in rows:", "    same.append(x)"),
    ("while rows:", "    others.append(rows.pop())"),
    ("return [others.append(x) for x in rows]",),
)


class Loops(unittest.TestCase):
    def found_in(self, rows):
        return changed_while_walked(ast.parse("\n    ".join(("def made(self, rows, others, table, other):",) + rows)))

    def test_nothing_is_changed_while_it_is_walked(self):
        for path, tree in trees():
            self.assertEqual(changed_while_walked(tree), [], path)

    def test_what_is_found(self):
        for rows in CHANGED:
            self.assertEqual(len(self.found_in(rows)), 1, rows)
        self.assertEqual(self.found_in(CHANGED[0]), [("made", 6)])

    def test_what_is_not_found(self):
        for rows in NOT_CHANGED:
            self.assertEqual(self.found_in(rows), [], rows)
